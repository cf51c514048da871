/-
  DERIVED. Get, put and Put of a cache, at one instance.
-/
import Derived.Test.YtmhlfbgchhmffaaCputIi
import Derived.RegionCalls
namespace Go.Proofs.Ytmhlfbgchhmffaa.Ii
open Go.RowKit Go.Maps Go.Proofs.Ytmhlfbgchhmffaa
set_option linter.unusedVariables false

/-- Things in another order. -/
theorem CIn.perm {w w' : World} {N c M Z m l n : Nat} {D : DataW Value} {L L' : List T} (h : CIn w N c M Z m l n D L) (hp : L'.Perm L) (a1 : LsAt w' l L') (a2 : But (lsB l L) w w') : CIn w' N c M Z m l n D L' ∧ Fr N w w' := by
  obtain ⟨q1, q2⟩ := lsB_c h
  have hk : (L'.map (·.k)).Nodup := (hp.map (·.k)).nodup_iff.2 h.keys
  refine ⟨⟨(a2.block c q1).trans h.cb, a1, own_but h.own a2 q2, fun k => (h.at_ k).trans ?_, hk, h.nc, h.nm, h.nl, fun t ht => h.nb t (hp.mem_iff.1 ht), by rw [hp.length_eq]; exact h.len, h.m1, h.m2, h.nz, fun t ht => h.pz t (hp.mem_iff.1 ht), fun t ht => h.gk t (hp.mem_iff.1 ht)⟩, Fr.of_but a2 (lsB_mine h)⟩
  rw [fnd_same h.keys hk (fun b k => ⟨fun ⟨t, ht, e⟩ => ⟨t, hp.mem_iff.2 ht, e⟩, fun ⟨t, ht, e⟩ => ⟨t, hp.mem_iff.1 ht, e⟩⟩) k]
theorem CAt.drewN {w : World} {N c M Z : Nat} {L : List T} (h : CAt w N c M Z L) (q : Nat) : CAt (w.drewN q) N c M Z L := h.grown (fun _ _ _ => rfl)
theorem Fr.drewN {N : Nat} {a b : World} (h : Fr N a b) (q : Nat) : Fr N a (b.drewN q) := ⟨h.os, h.tape, h.output, h.size, h.block⟩
theorem perm_end (L1 L2 : List T) (t : T) : (L1 ++ L2 ++ [t]).Perm (L1 ++ t :: L2) := by
  rw [List.append_assoc]
  exact (List.perm_append_comm (l₁ := L2) (l₂ := [t])).append_left L1

/-- One thing is another, of the same key. -/
theorem CIn.turn {w w' : World} {N c M Z m l n : Nat} {D : DataW Value} {L1 L2 : List T} {t t' : T} (h : CIn w N c M Z m l n D (L1 ++ t :: L2)) (hb : t'.b = t.b) (hk : t'.k = t.k) {Z' : Nat} (hz : Z ≤ Z') (hp : t'.p ≤ Z')
    (h1 : w'.heap[t.b]? = some (.cells (tcells kv vv t' (lst none L1) (hd L2 none)) 111 (0, 0))) (h2 : But (fun q => q = t.b) w w') : CIn w' N c M Z' m l n D (L1 ++ t' :: L2) ∧ Fr N w w' := by
  obtain ⟨q1, q2⟩ := lsB_c h
  obtain ⟨n1, n2, n3, n4⟩ := nd_mid h.ls.nd
  have hne : t.b ≠ l := h.ls.ne (by decide) t (by simp)
  have hB : ∀ q, q = t.b → lsB l (L1 ++ t :: L2) q := fun q e => .inr ⟨t, by simp, e.symm⟩
  obtain ⟨s1, s2⟩ := h.ls.split
  have ek : (L1 ++ t' :: L2).map (·.k) = (L1 ++ t :: L2).map (·.k) := by simp [hk]
  have eb : (L1 ++ t' :: L2).map (·.b) = (L1 ++ t :: L2).map (·.b) := by simp [hb]
  have ebk : ∀ b k, (∃ x ∈ L1 ++ t :: L2, x.b = b ∧ x.k = k) ↔ ∃ x ∈ L1 ++ t' :: L2, x.b = b ∧ x.k = k := by
    intro b k
    constructor
    · rintro ⟨x, hx, e⟩
      rcases List.mem_append.1 hx with hx | hx
      · exact ⟨x, by simp [hx], e⟩
      · rcases List.mem_cons.1 hx with rfl | hx
        · exact ⟨t', by simp, hb.trans e.1, hk.trans e.2⟩
        · exact ⟨x, by simp [hx], e⟩
    · rintro ⟨x, hx, e⟩
      rcases List.mem_append.1 hx with hx | hx
      · exact ⟨x, by simp [hx], e⟩
      · rcases List.mem_cons.1 hx with rfl | hx
        · exact ⟨t, by simp, hb.symm.trans e.1, hk.symm.trans e.2⟩
        · exact ⟨x, by simp [hx], e⟩
  have hls : LsAt w' l (L1 ++ t' :: L2) := by
    refine ⟨((h2.block l (fun e => hne e.symm)).trans h.ls.blk).trans ?_, ?_, by rw [eb]; exact h.ls.nd⟩
    · rw [hd_append, hd_append, lst_append, lst_append, hd, hd, lst, lst, hb]
      simp
    · rw [Seg_append]
      refine ⟨?_, ?_, ?_⟩
      · rw [hd, hb]
        exact s1.kept (fun x hx => h2.block x.b (n1 x hx))
      · rw [hb]; exact h1
      · rw [hb]
        exact s2.kept (fun x hx => h2.block x.b (n2 x hx))
  refine ⟨⟨(h2.block c (fun e => q1 (hB c e))).trans h.cb, hls, own_but h.own h2 (fun e => q2 (hB m e)), fun k => (h.at_ k).trans ?_, by rw [ek]; exact h.keys, h.nc, h.nm, h.nl, ?_, by have := h.len; simpa using this, h.m1, h.m2, by have := h.nz; omega, ?_, ?_⟩, Fr.of_but h2 (fun q e => lsB_mine h q (hB q e))⟩
  · rw [fnd_same h.keys (by rw [ek]; exact h.keys) ebk k]
  · intro x hx
    rcases List.mem_append.1 hx with hx | hx
    · exact h.nb x (by simp [hx])
    · rcases List.mem_cons.1 hx with rfl | hx
      · rw [hb]; exact h.nb t (by simp)
      · exact h.nb x (by simp [hx])
  · intro x hx
    rcases List.mem_append.1 hx with hx | hx
    · have := h.pz x (by simp [hx]); omega
    · rcases List.mem_cons.1 hx with rfl | hx
      · exact hp
      · have := h.pz x (by simp [hx]); omega
  · intro x hx
    rcases List.mem_append.1 hx with hx | hx
    · exact h.gk x (by simp [hx])
    · rcases List.mem_cons.1 hx with rfl | hx
      · rw [hk]; exact h.gk t (by simp)
      · exact h.gk x (by simp [hx])

theorem Get_none (w : World) (N c M Z : Nat) (L : List T) (k : Int) (h : CAt w N c M Z L) (hk : good k) (hn : fnd L k = none) :
    Calls Try.prog 21 #[.pointer (some ⟨c, 0, none⟩), .int .i64 k] w fun e w' => e = .returned (.tuple #[.int .i64 (0 : Int), .bool false]) ∧ CAt w' N c M Z L ∧ Fr N w w' := by
  have H := hide h
  clear h
  go_enter Try.func21, Try.ntmps21
  go_wp2_with fail
  refine (there_any w N c M Z L k (unhide H) hk).mono ?_
  rw [hn]
  simp only [ptr_none, Option.isSome_none, if_false, Bool.false_eq_true]
  rintro e1 w1 ⟨rfl, b1⟩
  go_wp2
  go_ret2
  exact ⟨rfl, (unhide H).below b1, Fr.of_below b1⟩
set_option maxHeartbeats 1000000 in
theorem Get_some (w : World) (N c M Z : Nat) (L1 L2 : List T) (t : T) (h : CAt w N c M Z (L1 ++ t :: L2)) :
    Calls Try.prog 21 #[.pointer (some ⟨c, 0, none⟩), .int .i64 t.k] w fun e w' => e = .returned (.tuple #[.int .i64 t.v, .bool true]) ∧ CAt w' N c M Z (L1 ++ L2 ++ [t]) ∧ Fr N w w' := by
  obtain ⟨m, l, n, D, h⟩ := h
  have hf : fnd (L1 ++ t :: L2) t.k = some t.b := fnd_mid (keys_mid h.keys).1
  have hk : good t.k := h.gk t (by simp)
  have hlen : (L1 ++ t :: L2).length ≤ 65536 := by have := h.len; have := h.m2; omega
  have H := hide h
  clear h
  go_enter Try.func21, Try.ntmps21
  go_wp2_with fail
  refine (there_any w N c M Z (L1 ++ t :: L2) t.k ⟨m, l, n, D, unhide H⟩ hk).mono ?_
  rw [hf]
  simp only [ptr_some, Option.isSome_some, if_true]
  rintro e1 w1 ⟨rfl, b1⟩
  have h1 : CIn w1 N c M Z m l n D (L1 ++ t :: L2) := (unhide H).grown (fun k hk _ => b1.block k hk)
  have c2 := h1.c2
  have H1 := hide h1
  have B1 := hide b1
  clear h1 b1
  go_wp2_with fail
  refine (use_any w1 l L1 L2 t (unhide H1).ls hlen).mono ?_
  rintro e1 w2 ⟨rfl, a1, a2⟩
  obtain ⟨h2, f2⟩ := (unhide H1).perm (perm_end L1 L2 t) a1 a2
  have ht := Ls.at (L1 := L1 ++ L2) (L2 := []) a1
  obtain ⟨_, t1, _⟩ := cell_t ht
  have H2 := hide h2
  have F2 := hide f2
  clear h2 f2 a1 a2 ht
  go_wp2
  go_ret2
  exact ⟨rfl, ⟨m, l, n, D, unhide H2⟩, (Fr.of_below (unhide B1)).trans (unhide F2)⟩
theorem Get_nil (w : World) (k : Int) : Calls Try.prog 21 #[.pointer none, .int .i64 k] w fun e w' => e = .returned (.tuple #[.int .i64 (0 : Int), .bool false]) ∧ w' = w := by
  go_enter Try.func21, Try.ntmps21
  go_wp2_with fail
  refine (there_nil w k).mono ?_
  rintro e1 w1 ⟨rfl, rfl⟩
  go_wp2
  go_ret2
  exact ⟨rfl, rfl⟩

set_option maxHeartbeats 1000000 in
theorem put_there (w : World) (N c M Z : Nat) (L1 L2 : List T) (t : T) (v : Int) (d : Bool) (h : CAt w N c M Z (L1 ++ t :: L2)) :
    Calls Try.prog 49 #[.pointer (some ⟨c, 0, none⟩), .int .i64 t.k, .int .i64 v, .bool d] w fun e w' => e = .returned (.tuple #[.pointer none, .int .i64 0]) ∧ CAt w' N c M Z (L1 ++ L2 ++ [⟨t.b, t.k, v, t.d || d, t.p⟩]) ∧ Fr N w w' := by
  obtain ⟨m, l, n, D, h⟩ := h
  have hf : fnd (L1 ++ t :: L2) t.k = some t.b := fnd_mid (keys_mid h.keys).1
  have hk : good t.k := h.gk t (by simp)
  have hlen : (L1 ++ t :: L2).length ≤ 65536 := by have := h.len; have := h.m2; omega
  have H := hide h
  clear h
  go_enter Try.func49, Try.ntmps49
  go_wp2_with fail
  refine (find_any w N c M Z (L1 ++ t :: L2) t.k ⟨m, l, n, D, unhide H⟩ hk).mono ?_
  rw [hf]
  simp only [ptr_some]
  rintro e1 w1 ⟨rfl, b1⟩
  have h1 : CIn w1 N c M Z m l n D (L1 ++ t :: L2) := (unhide H).grown (fun k hk _ => b1.block k hk)
  have c2 := h1.c2
  obtain ⟨_, t1, t2, _⟩ := cell_t h1.ls.at
  have hfz := froz h1.ls.at
  have hcb : c ≠ t.b := fun e => (lsB_c h1).1 (.inr ⟨t, by simp, e.symm⟩)
  have hcb' : t.b ≠ c := fun e => hcb e.symm
  have H1 := hide h1
  have B1 := hide b1
  have u2 := up (up h1.ls.at 1 (.int .i64 v)) 2 (.bool (t.d || d))
  have bt : But (fun q => q = t.b) w1 ((w1.setCell ⟨t.b, 1, none⟩ (.int .i64 v)).setCell ⟨t.b, 2, none⟩ (.bool (t.d || d))) := ((But.refl (fun q => q = t.b) w1).set (show t.b = t.b from rfl) _).set (show t.b = t.b from rfl) _
  have HC := hide (h1.turn (t' := ⟨t.b, t.k, v, t.d || d, t.p⟩) rfl rfl (Nat.le_refl Z) (h1.pz t (by simp)) u2 bt)
  clear h1 b1 u2 bt
  cases hd : t.d with
  | true =>
    rw [hd] at t2 HC
    simp only [Bool.true_or] at HC ⊢
    go_wp2_with fail
    refine (use_any _ l L1 L2 ⟨t.b, t.k, v, true, t.p⟩ (unhide HC).1.ls (by simpa using hlen)).mono ?_
    rintro e1 w2 ⟨rfl, a1, a2⟩
    have hr := (unhide HC).1.perm (perm_end L1 L2 _) a1 a2
    have HR := hide hr
    clear hr a1 a2
    go_wp2
    go_ret2
    rw [show (t.d || d) = true by rw [hd]; rfl]
    exact ⟨rfl, ⟨m, l, n, D, (unhide HR).1⟩, ((Fr.of_below (unhide B1)).trans (unhide HC).2).trans (unhide HR).2⟩
  | false =>
    rw [hd] at t2 HC
    simp only [Bool.false_or] at HC ⊢
    go_wp2_with fail
    refine (use_any _ l L1 L2 ⟨t.b, t.k, v, d, t.p⟩ (unhide HC).1.ls (by simpa using hlen)).mono ?_
    rintro e1 w2 ⟨rfl, a1, a2⟩
    have hr := (unhide HC).1.perm (perm_end L1 L2 _) a1 a2
    have HR := hide hr
    clear hr a1 a2
    go_wp2
    go_ret2
    rw [show (t.d || d) = d by rw [hd]; rfl]
    exact ⟨rfl, ⟨m, l, n, D, (unhide HR).1⟩, ((Fr.of_below (unhide B1)).trans (unhide HC).2).trans (unhide HR).2⟩

set_option maxHeartbeats 1000000 in
theorem put_room (w : World) (N c M Z : Nat) (L : List T) (k : Int) (v : Int) (d : Bool) (h : CAt w N c M Z L) (hk : good k) (hn : fnd L k = none) (hlt : L.length < M) (hZ : Z ≤ 1000000) (hN : N ≤ w.heap.size) :
    Calls Try.prog 49 #[.pointer (some ⟨c, 0, none⟩), .int .i64 k, .int .i64 v, .bool d] w fun e w' => e = .returned (.tuple #[.pointer none, .int .i64 0]) ∧ (∃ b, CAt w' N c M (Z + 1) (L ++ [⟨b, k, v, d, 0⟩])) ∧ Fr N w w' := by
  have H := hide h
  clear h
  go_enter Try.func49, Try.ntmps49
  go_wp2_with fail
  refine (find_any w N c M Z L k (unhide H) hk).mono ?_
  rw [hn]
  simp only [ptr_none]
  rintro e1 w1 ⟨rfl, b1⟩
  have h1 := (unhide H).below b1
  have c0 : w1.cell? ⟨c, 0, none⟩ = some (.int .i64 (M : Int)) := by
    obtain ⟨m, l, n, D, h⟩ := h1
    exact h.c0
  have H1 := hide h1
  have B1 := hide b1
  have hlt' : (L.length : Int) < (M : Int) := by omega
  have hN1 : N ≤ w1.heap.size := by have := b1.size; omega
  clear h1 b1
  go_wp2_with fail
  go_quiet ((go_at_call 27; exact Calls.quiet_of_same (Len_any _ N c M Z L ((unhide H1).drewN _))))
  go_wp2_with fail
  refine (cadd_any _ N c M Z L k v d ((unhide H1).drewN _) hk hn hlt hZ hN1).mono ?_
  rintro e1 w2 ⟨rfl, a1, a2⟩
  have HR := hide a1
  have HF := hide (((Fr.of_below (unhide B1)).drewN _).trans a2)
  clear a1 a2
  go_wp2
  go_ret2
  exact ⟨rfl, ⟨_, unhide HR⟩, unhide HF⟩
set_option maxHeartbeats 1000000 in
theorem put_full (w : World) (N c M Z : Nat) (L : List T) (k : Int) (v : Int) (d : Bool) (h : CAt w N c M Z L) (hk : good k) (hn : fnd L k = none) (hfull : L.length = M) (hp : ∀ t ∈ L, t.p ≠ 0) :
    Calls Try.prog 49 #[.pointer (some ⟨c, 0, none⟩), .int .i64 k, .int .i64 v, .bool d] w fun e w' => e = .returned (.tuple #[.pointer none, .int .i64 70]) ∧ CAt w' N c M Z L ∧ Fr N w w' := by
  have hl := loo_none.2 hp
  have H := hide h
  clear h
  go_enter Try.func49, Try.ntmps49
  go_wp2_with fail
  refine (find_any w N c M Z L k (unhide H) hk).mono ?_
  rw [hn]
  simp only [ptr_none]
  rintro e1 w1 ⟨rfl, b1⟩
  have h1 := (unhide H).below b1
  have c0 : w1.cell? ⟨c, 0, none⟩ = some (.int .i64 (M : Int)) := by
    obtain ⟨m, l, n, D, h⟩ := h1
    exact h.c0
  have H1 := hide h1
  have B1 := hide b1
  have hlt' : ¬ (L.length : Int) < (M : Int) := by omega
  have HFl := hide hfull
  clear h1 b1 hfull
  go_wp2_with fail
  go_quiet ((go_at_call 27; exact Calls.quiet_of_same (Len_any _ N c M Z L ((unhide H1).drewN _))))
  go_wp2_with fail
  refine (loose_any _ N c M Z L ((unhide H1).drewN _)).mono ?_
  rw [hl]
  simp only [ptr_none]
  rintro e1 w2 ⟨rfl, rfl⟩
  go_wp2
  go_ret2
  exact ⟨rfl, (unhide H1).drewN _, (Fr.of_below (unhide B1)).drewN _⟩
set_option maxHeartbeats 2000000 in
theorem put_goes (w : World) (N c M Z : Nat) (L1 L2 : List T) (t : T) (k : Int) (v : Int) (d : Bool) (h : CAt w N c M Z (L1 ++ t :: L2)) (hk : good k) (hn : fnd (L1 ++ t :: L2) k = none) (hfull : (L1 ++ t :: L2).length = M) (hp : ∀ x ∈ L1, x.p ≠ 0) (ht : t.p = 0) (hZ : Z ≤ 1000000) (hN : N ≤ w.heap.size) :
    Calls Try.prog 49 #[.pointer (some ⟨c, 0, none⟩), .int .i64 k, .int .i64 v, .bool d] w fun e w' => e = .returned (.tuple #[.pointer (some ⟨t.b, 0, none⟩), .int .i64 0]) ∧ (∃ b, CAt w' N c M (Z + 1) (L1 ++ L2 ++ [⟨b, k, v, d, 0⟩])) ∧ (∃ p n, w'.heap[t.b]? = some (.cells (tcells kv vv t p n) 111 (0, 0))) ∧ Fr N w w' := by
  have hl : loo (L1 ++ t :: L2) = some t.b := by
    unfold loo
    rw [List.find?_append, List.find?_eq_none.2 (by simpa using hp)]
    simp [ht]
  have hn2 : fnd (L1 ++ L2) k = none := by
    rw [fnd_none] at hn ⊢
    exact fun x hx => hn x (by rcases List.mem_append.1 hx with h | h <;> simp [h])
  have H := hide h
  clear h
  go_enter Try.func49, Try.ntmps49
  go_wp2_with fail
  refine (find_any w N c M Z (L1 ++ t :: L2) k (unhide H) hk).mono ?_
  rw [hn]
  simp only [ptr_none]
  rintro e1 w1 ⟨rfl, b1⟩
  have h1 := (unhide H).below b1
  have c0 : w1.cell? ⟨c, 0, none⟩ = some (.int .i64 (M : Int)) := by
    obtain ⟨m, l, n, D, h⟩ := h1
    exact h.c0
  have H1 := hide h1
  have B1 := hide b1
  obtain ⟨q, hq⟩ : ∃ q, q = (L1 ++ t :: L2).length := ⟨_, rfl⟩
  have CL : Hid (∀ W : World, CAt W N c M Z (L1 ++ t :: L2) → Calls Try.prog 27 #[.pointer (some ⟨c, 0, none⟩)] W fun e w' => e = .returned (.int .i64 (q : Int)) ∧ w' = W) := hide (fun W hW => by rw [hq]; exact Len_any W N c M Z _ hW)
  have hlt' : ¬ (q : Int) < (M : Int) := by omega
  have hlt : Hid ((L1 ++ L2).length < M) := hide (by simp at hfull ⊢; omega)
  have hN1 : N ≤ w1.heap.size := by have := b1.size; omega
  clear h1 b1 hfull hq
  go_wp2_with fail
  go_quiet ((go_at_call 27; exact Calls.quiet_of_same (unhide CL _ ((unhide H1).drewN _))))
  go_wp2_with fail
  refine (loose_any _ N c M Z (L1 ++ t :: L2) ((unhide H1).drewN _)).mono ?_
  rw [hl]
  simp only [ptr_some]
  rintro e1 w2 ⟨rfl, rfl⟩
  go_wp2_with fail
  refine (crem_any _ N c M Z L1 L2 t ((unhide H1).drewN _)).mono ?_
  rintro e1 w2 ⟨rfl, a1, a2, a3⟩
  have H2 := hide a1
  have F2 := hide (((Fr.of_below (unhide B1)).drewN _).trans a3)
  have HT : Hid (∃ p n, w2.heap[t.b]? = some (.cells (tcells kv vv t p n) 111 (0, 0))) := hide (by
    obtain ⟨m, l, n, D, h⟩ := unhide H1
    exact ⟨_, _, a2.trans h.ls.at⟩)
  have HTl : Hid (∀ x ∈ L1 ++ L2, x.b ≠ t.b) := hide (by
    obtain ⟨m, l, n, D, h⟩ := unhide H1
    obtain ⟨n1, n2, _⟩ := nd_mid h.ls.nd
    exact fun x hx => by
      rcases List.mem_append.1 hx with h | h
      · exact n1 x h
      · exact n2 x h)
  have hN2 : N ≤ w2.heap.size := by have := a3.size; exact Nat.le_trans hN1 this
  clear a1 a2 a3
  go_wp2_with fail
  refine (cadd_keeps _ N c M Z (L1 ++ L2) k v d (unhide H2) hk hn2 (unhide hlt) hZ hN2).mono ?_
  rintro e1 w3 ⟨rfl, a1, a2, a3⟩
  have H3 := hide a1
  have F3 := hide ((unhide F2).trans a2)
  have HT3 : Hid (∃ p n, w3.heap[t.b]? = some (.cells (tcells kv vv t p n) 111 (0, 0))) := hide (by
    obtain ⟨p, n, hb⟩ := unhide HT
    exact ⟨p, n, (a3 t.b _ _ hb (unhide HTl)).trans hb⟩)
  clear a1 a2 a3
  go_wp2
  go_ret2
  exact ⟨rfl, ⟨_, unhide H3⟩, unhide HT3, unhide F3⟩
theorem put_nil (w : World) (k : Int) (v : Int) (d : Bool) : Calls Try.prog 49 #[.pointer none, .int .i64 k, .int .i64 v, .bool d] w fun e w' => e = .returned (.tuple #[.pointer none, .int .i64 1]) ∧ w' = w := by
  go_enter Try.func49, Try.ntmps49
  go_wp2
  go_ret2
  exact ⟨rfl, rfl⟩
end Go.Proofs.Ytmhlfbgchhmffaa.Ii
