/-
  DERIVED. add, remove and use over whole lists, at one instance.
-/
import Derived.Test.YtmhlfbgchhmffaaClistIs
namespace Go.Proofs.Ytmhlfbgchhmffaa.Is
open Go.RowKit Go.Maps Go.Proofs.Ytmhlfbgchhmffaa
set_option linter.unusedVariables false

theorem up {w : World} {b : Nat} {C : Array Value} {t : TypeId} (h : w.heap[b]? = some (.cells C t (0, 0))) (i : Nat) (v : Value) : (w.setCell ⟨b, i, none⟩ v).heap[b]? = some (.cells (C.setIfInBounds i v) t (0, 0)) := heap_setCell_same w b i C t v h
theorem ov {w : World} {b k : Nat} (hk : k ≠ b) (i : Nat) (v : Value) : (w.setCell ⟨b, i, none⟩ v).heap[k]? = w.heap[k]? := heap_setCell_other w ⟨b, i, none⟩ k v hk

theorem add_any (w : World) (l : Nat) (L : List T) (t : T) (p n : Option Nat) (h : LsAt w l L) (ht : w.heap[t.b]? = some (.cells (tcells kv vv t p n) 125 (0, 0))) (hnew : ∀ x ∈ L, x.b ≠ t.b) (hlen : L.length ≤ 65536) :
    Calls Try.prog 84 #[.pointer (some ⟨l, 0, none⟩), .pointer (some ⟨t.b, 0, none⟩)] w fun e w' => e = .returned (.tuple #[]) ∧ LsAt w' l (L ++ [t]) ∧ But (lsB l (L ++ [t])) w w' := by
  obtain ⟨tk, tv, td, tp, t4, t5⟩ := cell_t ht
  obtain ⟨l0, l1, l2⟩ := cell_l h
  have hne : t.b ≠ l := by
    intro e
    rw [e] at ht
    have h1 := Option.some.inj (h.blk.symm.trans ht)
    injection h1 with _ h2 _
    exact absurd h2 (by decide)
  have hF : lsB l (L ++ [t]) l := .inl rfl
  have hT : lsB l (L ++ [t]) t.b := .inr ⟨t, by simp, rfl⟩
  have hnd : ((L ++ [t]).map (·.b)).Nodup := by
    rw [List.map_append]
    refine List.nodup_append.2 ⟨h.nd, by simp, fun a ha b hb => ?_⟩
    obtain ⟨x, hx, rfl⟩ := List.mem_map.1 ha
    simp at hb
    subst hb
    exact hnew x hx
  rcases List.eq_nil_or_concat L with rfl | ⟨A, x, rfl⟩
  · refine (add_empty w l t.b _ _ _ hne t4 t5 l0 l1 l2 (froz ht) (froz h.blk)).mono ?_
    rintro e w' ⟨rfl, rfl⟩
    have a1 := up ht 4 (.pointer none)
    have a2 := up a1 5 (.pointer none)
    have b2 := (ov (fun e => hne e.symm) 5 (.pointer none)).trans ((ov (w := w) (fun e => hne e.symm) 4 (.pointer none)).trans h.blk)
    have b3 := up (up (up b2 0 (.pointer (some ⟨t.b, 0, none⟩))) 1 (.pointer (some ⟨t.b, 0, none⟩))) 2 (.int .i64 1)
    refine ⟨rfl, ⟨b3, ⟨?_, trivial⟩, hnd⟩, (((((But.refl _ w).set hT _).set hT _).set hF _).set hF _).set hF _⟩
    exact (ov hne _ _).trans ((ov hne _ _).trans ((ov hne _ _).trans a2))
  · rw [List.concat_eq_append] at *
    have hx : x ∈ A ++ [x] := by simp
    have hxt := hnew x hx
    have hxl : x.b ≠ l := h.ne (by decide) x hx
    have hxb := Ls.at (L1 := A) (L2 := []) h
    obtain ⟨_, _, _, _, _, x5⟩ := cell_t hxb
    rw [lst_snoc] at l1
    refine (add_some w l t.b x.b (A ++ [x]).length _ _ _ hne hxl hxt (by omega) t4 t5 x5 l1 l2 (froz ht) (froz h.blk) (froz hxb)).mono ?_
    rintro e w' ⟨rfl, rfl⟩
    have hX : lsB l (A ++ [x] ++ [t]) x.b := .inr ⟨x, by simp, rfl⟩
    have a2 := up (up ht 4 (.pointer (some ⟨x.b, 0, none⟩))) 5 (.pointer none)
    have b2 := (ov (fun e => hne e.symm) 5 (.pointer none)).trans ((ov (w := w) (fun e => hne e.symm) 4 (.pointer (some ⟨x.b, 0, none⟩))).trans h.blk)
    have c2 := (ov hxt 5 (.pointer none)).trans ((ov (w := w) hxt 4 (.pointer (some ⟨x.b, 0, none⟩))).trans hxb)
    have c3 := up c2 5 (.pointer (some ⟨t.b, 0, none⟩))
    have b3 := (ov (fun e => hxl e.symm) 5 (.pointer (some ⟨t.b, 0, none⟩))).trans b2
    have b5 := up (up b3 1 (.pointer (some ⟨t.b, 0, none⟩))) 2 (.int .i64 (((A ++ [x]).length : Int) + 1))
    have c5 := (ov hxl 2 (.int .i64 (((A ++ [x]).length : Int) + 1))).trans ((ov hxl 1 (.pointer (some ⟨t.b, 0, none⟩))).trans c3)
    have a5 := (ov hne 2 (.int .i64 (((A ++ [x]).length : Int) + 1))).trans ((ov hne 1 (.pointer (some ⟨t.b, 0, none⟩))).trans ((ov (fun e => hxt e.symm) 5 (.pointer (some ⟨t.b, 0, none⟩))).trans a2))
    have hB := ((((((But.refl (lsB l (A ++ [x] ++ [t])) w).set hT (i := 4) (.pointer (some ⟨x.b, 0, none⟩))).set hT (i := 5) (.pointer none)).set hX (i := 5) (.pointer (some ⟨t.b, 0, none⟩))).set hF (i := 1) (.pointer (some ⟨t.b, 0, none⟩))).set hF (i := 2) (.int .i64 (((A ++ [x]).length : Int) + 1)))
    refine ⟨rfl, ⟨?_, ?_, hnd⟩, hB⟩
    · refine b5.trans ?_
      have e1 : ((A ++ [x] ++ [t]).length : Int) = ((A ++ [x]).length : Int) + 1 := by simp; omega
      rw [e1, lst_snoc (A ++ [x]), hd_append (A ++ [x])]
      cases A with
      | nil => rfl
      | cons a A => rfl
    · rw [Seg_append]
      refine ⟨?_, ?_, trivial⟩
      · refine Seg.last h.seg (n' := hd [t] none) (c5.trans rfl) (fun y hy => ?_)
        have h1 : y.b ≠ t.b := hnew y (by simp [hy])
        have h2 : y.b ≠ l := h.ne (by decide) y (by simp [hy])
        have h3 : y.b ≠ x.b := nd_snoc h.nd y hy
        exact (ov h2 _ _).trans ((ov h2 _ _).trans ((ov h3 _ _).trans ((ov h1 _ _).trans (ov h1 _ _))))
      · rw [lst_snoc]
        exact a5.trans rfl

/-- What remove leaves. -/
theorem remove_any (w : World) (l : Nat) (L1 L2 : List T) (t : T) (h : LsAt w l (L1 ++ t :: L2)) (hlen : (L1 ++ t :: L2).length ≤ 65536) :
    Calls Try.prog 83 #[.pointer (some ⟨l, 0, none⟩), .pointer (some ⟨t.b, 0, none⟩)] w fun e w' => e = .returned (.tuple #[]) ∧ LsAt w' l (L1 ++ L2) ∧ w'.heap[t.b]? = w.heap[t.b]? ∧ But (lsB l (L1 ++ L2)) w w' := by
  have ht := h.at
  obtain ⟨tk, tv, td, tp, t4, t5⟩ := cell_t ht
  obtain ⟨l0, l1, l2⟩ := cell_l h
  have hne : t.b ≠ l := h.ne (by decide) t (by simp)
  obtain ⟨n1, n2, n3, hnd⟩ := nd_mid h.nd
  obtain ⟨s1, s2⟩ := h.split
  have hF : lsB l (L1 ++ L2) l := .inl rfl
  have hlen' : ((L1 ++ t :: L2).length : Int) = ((L1 ++ L2).length : Int) + 1 := by simp; omega
  rw [hlen'] at l2
  have hlen2 : (L1 ++ L2).length ≤ 65536 := by simp at hlen ⊢; omega
  have hNl : ∀ x ∈ L1 ++ L2, x.b ≠ l := fun x hx => h.ne (by decide) x (by
    rcases List.mem_append.1 hx with h | h
    · simp [h]
    · simp [h])
  have hin : ∀ x ∈ L1 ++ L2, lsB l (L1 ++ L2) x.b := fun x hx => .inr ⟨x, hx, rfl⟩
  have nl : ((L1 ++ L2).length : Int) = ((L1 ++ L2).length : Nat) := rfl
  rcases List.eq_nil_or_concat L1 with rfl | ⟨A, x, rfl⟩
  · cases L2 with
    | nil =>
      refine (remove_only w l t.b 0 _ _ hne (by omega) t4 t5 l0 l1 l2 (froz ht) (froz h.blk)).mono ?_
      rintro e w' ⟨rfl, rfl⟩
      have b3 := up (up (up h.blk 0 (.pointer none)) 1 (.pointer none)) 2 (.int .i64 ((0 : Nat) : Int))
      exact ⟨rfl, ⟨b3, trivial, hnd⟩, (ov hne _ _).trans ((ov hne _ _).trans (ov hne _ _)), (((But.refl _ w).set hF _).set hF _).set hF _⟩
    | cons y B =>
      have hy2 : y.b ≠ t.b := n2 y (by simp)
      have hyl : y.b ≠ l := hNl y (by simp)
      have hyb := s2.1
      obtain ⟨_, _, _, _, y4, _⟩ := cell_t hyb
      refine (remove_first w l t.b y.b (B.length + 1) _ _ hne hyl hy2 (by simp at hlen2; omega) t4 t5 y4 l0 l2 (froz ht) (froz h.blk) (froz hyb)).mono ?_
      rintro e w' ⟨rfl, k, rfl⟩
      have b1 := up h.blk 0 (.pointer (some ⟨y.b, 0, none⟩))
      have b2 := (ov (fun e => hyl e.symm) 4 (.pointer none)).trans b1
      have b3 := up b2 2 (.int .i64 ((B.length + 1 : Nat) : Int))
      have y2 := up ((ov hyl 0 (.pointer (some ⟨y.b, 0, none⟩))).trans hyb) 4 (.pointer none)
      have y3 := (ov hyl 2 (.int .i64 ((B.length + 1 : Nat) : Int))).trans y2
      have hB := ((((But.refl (lsB l ([] ++ y :: B)) w).set hF (i := 0) (.pointer (some ⟨y.b, 0, none⟩))).set (hin y (by simp)) (i := 4) (.pointer none)).set hF (i := 2) (.int .i64 ((B.length + 1 : Nat) : Int))).drewN k
      refine ⟨rfl, ⟨b3, ?_, hnd⟩, (ov hne _ _).trans ((ov (fun e => hy2 e.symm) _ _).trans (ov hne _ _)), hB⟩
      refine Seg.first s2 y3 (fun z hz => ?_)
      have z1 : z.b ≠ l := hNl z (by simp [hz])
      have z2 : z.b ≠ y.b := by
        have := (List.nodup_cons.1 hnd).1
        exact fun e => this (List.mem_map.2 ⟨z, hz, e⟩)
      exact (ov z1 _ _).trans ((ov z2 _ _).trans (ov z1 _ _))
  · rw [List.concat_eq_append] at *
    have hx2 : x.b ≠ t.b := n1 x (by simp)
    have hxl : x.b ≠ l := hNl x (by simp)
    have hxb : w.heap[x.b]? = some (.cells (tcells kv vv x (lst none A) (some t.b)) 125 (0, 0)) := by
      rw [Seg_append] at s1
      exact s1.2.1
    obtain ⟨_, _, _, _, _, x5⟩ := cell_t hxb
    have hndA : ∀ z ∈ A, z.b ≠ x.b := by
      rw [List.append_assoc] at hnd
      exact (nd_mid (L1 := A) (L2 := L2) hnd).1
    rw [lst_snoc] at t4
    cases L2 with
    | nil =>
      refine (remove_last w l t.b x.b ((A ++ [x] ++ []).length) _ _ hne hxl hx2 hlen2 t4 t5 x5 l1 l2 (froz ht) (froz h.blk) (froz hxb)).mono ?_
      rintro e w' ⟨rfl, k, rfl⟩
      have x1 := up hxb 5 (.pointer none)
      have x3 := (ov hxl 2 (.int .i64 ((A ++ [x] ++ []).length : Int))).trans ((ov hxl 1 (.pointer (some ⟨x.b, 0, none⟩))).trans x1)
      have b1 := (ov (w := w) (fun e => hxl e.symm) 5 (.pointer none)).trans h.blk
      have b3 := up (up b1 1 (.pointer (some ⟨x.b, 0, none⟩))) 2 (.int .i64 ((A ++ [x] ++ []).length : Int))
      have hB := ((((But.refl (lsB l (A ++ [x] ++ [])) w).set (hin x (by simp)) (i := 5) (.pointer none)).set hF (i := 1) (.pointer (some ⟨x.b, 0, none⟩))).set hF (i := 2) (.int .i64 ((A ++ [x] ++ []).length : Int))).drewN k
      refine ⟨rfl, ⟨b3.trans ?_, ?_, hnd⟩, (ov hne _ _).trans ((ov hne _ _).trans (ov (fun e => hx2 e.symm) _ _)), hB⟩
      · rw [List.append_nil, lst_snoc A x, lst_snoc (A ++ [x]) t]
        cases A with
        | nil => rfl
        | cons a A => rfl
      · rw [Seg_append]
        refine ⟨Seg.last s1 (n' := none) x3 (fun z hz => ?_), trivial⟩
        have z1 : z.b ≠ l := hNl z (by simp [hz])
        exact (ov z1 _ _).trans ((ov z1 _ _).trans (ov (hndA z hz) _ _))
    | cons y B =>
      have hy2 : y.b ≠ t.b := n2 y (by simp)
      have hyl : y.b ≠ l := hNl y (by simp)
      have hxy : x.b ≠ y.b := n3 x (by simp) y (by simp)
      have hyb := s2.1
      obtain ⟨_, _, _, _, y4, _⟩ := cell_t hyb
      refine (remove_mid w l t.b x.b y.b ((A ++ [x] ++ y :: B).length) _ _ hne hxl hx2 hyl hy2 hxy hlen2 t4 t5 x5 y4 l2 (froz ht) (froz h.blk) (froz hxb) (froz hyb)).mono ?_
      rintro e w' ⟨rfl, k, rfl⟩
      have x1 := up hxb 5 (.pointer (some ⟨y.b, 0, none⟩))
      have x3 := (ov hxl 2 (.int .i64 ((A ++ [x] ++ y :: B).length : Int))).trans ((ov hxy 4 (.pointer (some ⟨x.b, 0, none⟩))).trans x1)
      have y1 := (ov (w := w) (fun e => hxy e.symm) 5 (.pointer (some ⟨y.b, 0, none⟩))).trans hyb
      have y3 := (ov hyl 2 (.int .i64 ((A ++ [x] ++ y :: B).length : Int))).trans (up y1 4 (.pointer (some ⟨x.b, 0, none⟩)))
      have b2 := (ov (fun e => hyl e.symm) 4 (.pointer (some ⟨x.b, 0, none⟩))).trans ((ov (w := w) (fun e => hxl e.symm) 5 (.pointer (some ⟨y.b, 0, none⟩))).trans h.blk)
      have b3 := up b2 2 (.int .i64 ((A ++ [x] ++ y :: B).length : Int))
      have hB := ((((But.refl (lsB l (A ++ [x] ++ y :: B)) w).set (hin x (by simp)) (i := 5) (.pointer (some ⟨y.b, 0, none⟩))).set (hin y (by simp)) (i := 4) (.pointer (some ⟨x.b, 0, none⟩))).set hF (i := 2) (.int .i64 ((A ++ [x] ++ y :: B).length : Int))).drewN k
      refine ⟨rfl, ⟨b3.trans ?_, ?_, hnd⟩, (ov hne _ _).trans ((ov (fun e => hy2 e.symm) _ _).trans (ov (fun e => hx2 e.symm) _ _)), hB⟩
      · rw [lst_append, lst_append, lst_append]
        cases A with
        | nil => rfl
        | cons a A => rfl
      · rw [Seg_append]
        refine ⟨Seg.last s1 (n' := some y.b) x3 (fun z hz => ?_), ?_⟩
        · have z1 : z.b ≠ l := hNl z (by simp [hz])
          have z2 : z.b ≠ y.b := n3 z (by simp [hz]) y (by simp)
          exact (ov z1 _ _).trans ((ov z2 _ _).trans (ov (hndA z hz) _ _))
        · rw [lst_snoc]
          refine Seg.first s2 y3 (fun z hz => ?_)
          have z1 : z.b ≠ l := hNl z (by simp [hz])
          have z2 : z.b ≠ x.b := fun e => n3 x (by simp) z (by simp [hz]) e.symm
          have z3 : z.b ≠ y.b := by
            rw [List.map_append] at hnd
            have := (List.nodup_cons.1 (List.nodup_append.1 hnd).2.1).1
            exact fun e => this (List.mem_map.2 ⟨z, hz, e⟩)
          exact (ov z1 _ _).trans ((ov z3 _ _).trans (ov z2 _ _))

theorem use_any (w : World) (l : Nat) (L1 L2 : List T) (t : T) (h : LsAt w l (L1 ++ t :: L2)) (hlen : (L1 ++ t :: L2).length ≤ 65536) :
    Calls Try.prog 57 #[.pointer (some ⟨l, 0, none⟩), .pointer (some ⟨t.b, 0, none⟩)] w fun e w' => e = .returned (.tuple #[]) ∧ LsAt w' l (L1 ++ L2 ++ [t]) ∧ But (lsB l (L1 ++ t :: L2)) w w' := by
  have hat := h.at
  obtain ⟨n1, n2, n3, hnd⟩ := nd_mid h.nd
  have hlen2 : (L1 ++ L2).length ≤ 65536 := by simp at hlen ⊢; omega
  have H := hide h
  clear h
  go_enter Try.func57, Try.ntmps57
  go_wp2_with fail
  refine (remove_any w l L1 L2 t (unhide H) hlen).mono ?_
  rintro e w1 ⟨rfl, h1, h2, h3⟩
  have H1 := hide h1
  have H2 := hide (h2.trans hat)
  have H3 := hide h3
  clear h1 h2 h3 hat
  go_wp2_with fail
  refine (add_any w1 l (L1 ++ L2) t _ _ (unhide H1) (unhide H2) (fun x hx => by
    rcases List.mem_append.1 hx with h | h
    · exact n1 x h
    · exact n2 x h) hlen2).mono ?_
  rintro e w2 ⟨rfl, k1, k2⟩
  go_wp2
  go_end0
  refine ⟨rfl, k1, ((unhide H3).mono ?_).trans k2 ?_⟩
  · rintro i (rfl | ⟨x, hx, rfl⟩)
    · exact .inl rfl
    · exact .inr ⟨x, by rcases List.mem_append.1 hx with h | h <;> simp [h], rfl⟩
  · rintro i (rfl | ⟨x, hx, rfl⟩)
    · exact .inl rfl
    · refine .inr ⟨x, ?_, rfl⟩
      simp only [List.mem_append, List.mem_cons, List.not_mem_nil, or_false] at hx ⊢
      rcases hx with (h | h) | h
      · exact .inl h
      · exact .inr (.inr h)
      · exact .inr (.inl h)
end Go.Proofs.Ytmhlfbgchhmffaa.Is
