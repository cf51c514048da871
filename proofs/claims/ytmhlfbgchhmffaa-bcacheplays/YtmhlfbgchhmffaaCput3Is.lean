/-
  DERIVED. Put of a cache, at one instance.
-/
import Derived.Test.YtmhlfbgchhmffaaCput2Is
namespace Go.Proofs.Ytmhlfbgchhmffaa.Is
open Go.RowKit Go.Maps Go.Proofs.Ytmhlfbgchhmffaa
set_option linter.unusedVariables false

theorem CAt.alloc {w : World} {N c M Z : Nat} {L : List T} (h : CAt w N c M Z L) (o : Obj) : CAt (w.alloc o) N c M Z L := h.below ((Below.refl w.heap.size w).alloc (Nat.le_refl _) o)
theorem Fr.alloc {N : Nat} {a b : World} (h : Fr N a b) (o : Obj) : Fr N a (b.alloc o) := h.trans (Fr.of_below ((Below.refl b.heap.size b).alloc (Nat.le_refl _) o))

/-- What Put says where nothing went. -/
abbrev stays (e : Int) : Ending := .returned (.tuple #[.int .i64 (0 : Int), .string (⟨#[]⟩ : ByteArray), .bool false, .bool false, .int .i64 e])
set_option maxHeartbeats 1000000 in
theorem Put_of (w : World) (cp : Value) (k : Int) (v : ByteArray) (d : Bool) (en : Int) (P : World → Prop) (hP : ∀ W o q, P W → P ((W.alloc o).drewN q))
    (h : Calls Try.prog 55 #[cp, .int .i64 k, .string v, .bool d] w fun e w' => e = .returned (.tuple #[.pointer none, .int .i64 en]) ∧ P w') :
    Calls Try.prog 31 #[cp, .int .i64 k, .string v, .bool d] w fun e w' => e = stays en ∧ P w' := by
  have H := hide h
  clear h
  go_enter Try.func31, Try.ntmps31
  go_wp2_with fail
  refine (unhide H).mono ?_
  rintro e1 w1 ⟨rfl, p1⟩
  have H1 := hide p1
  clear p1
  go_wp2
  go_quiet (fail)
  go_wp2
  exact bodyPost_ret (v := .tuple #[.int .i64 (0 : Int), .string (⟨#[]⟩ : ByteArray), .bool false, .bool false, .int .i64 en]) (by simp [results, Try.results31, go_sem]) rfl ⟨rfl, hP _ _ _ (unhide H1)⟩
theorem keeps_P (w : World) (N c M Z : Nat) (Q : List T → Prop) : ∀ (W : World) (o : Obj) (q : Nat), ((∃ L, CAt W N c M Z L ∧ Q L) ∧ Fr N w W) → ((∃ L, CAt ((W.alloc o).drewN q) N c M Z L ∧ Q L) ∧ Fr N w ((W.alloc o).drewN q)) :=
  fun W o q ⟨⟨L, h1, h2⟩, h3⟩ => ⟨⟨L, (h1.alloc o).drewN q, h2⟩, (h3.alloc o).drewN q⟩
theorem Put_there (w : World) (N c M Z : Nat) (L1 L2 : List T) (t : T) (v : ByteArray) (d : Bool) (h : CAt w N c M Z (L1 ++ t :: L2)) :
    Calls Try.prog 31 #[.pointer (some ⟨c, 0, none⟩), .int .i64 t.k, .string v, .bool d] w fun e w' => e = stays 0 ∧ (∃ L, CAt w' N c M Z L ∧ L = L1 ++ L2 ++ [⟨t.b, t.k, v, t.d || d, t.p⟩]) ∧ Fr N w w' :=
  Put_of w _ t.k v d 0 _ (keeps_P w N c M Z _) ((put_there w N c M Z L1 L2 t v d h).mono (fun e w' h => ⟨h.1, ⟨_, h.2.1, rfl⟩, h.2.2⟩))
theorem Put_room (w : World) (N c M Z : Nat) (L : List T) (k : Int) (v : ByteArray) (d : Bool) (h : CAt w N c M Z L) (hk : good k) (hn : fnd L k = none) (hlt : L.length < M) (hZ : Z ≤ 1000000) (hN : N ≤ w.heap.size) :
    Calls Try.prog 31 #[.pointer (some ⟨c, 0, none⟩), .int .i64 k, .string v, .bool d] w fun e w' => e = stays 0 ∧ (∃ L', CAt w' N c M (Z + 1) L' ∧ ∃ b, L' = L ++ [⟨b, k, v, d, 0⟩]) ∧ Fr N w w' :=
  Put_of w _ k v d 0 _ (keeps_P w N c M (Z + 1) _) ((put_room w N c M Z L k v d h hk hn hlt hZ hN).mono (fun e w' h => ⟨h.1, h.2.1.elim (fun b hb => ⟨_, hb, b, rfl⟩), h.2.2⟩))
theorem Put_full (w : World) (N c M Z : Nat) (L : List T) (k : Int) (v : ByteArray) (d : Bool) (h : CAt w N c M Z L) (hk : good k) (hn : fnd L k = none) (hfull : L.length = M) (hp : ∀ t ∈ L, t.p ≠ 0) :
    Calls Try.prog 31 #[.pointer (some ⟨c, 0, none⟩), .int .i64 k, .string v, .bool d] w fun e w' => e = stays 70 ∧ (∃ L', CAt w' N c M Z L' ∧ L' = L) ∧ Fr N w w' :=
  Put_of w _ k v d 70 _ (keeps_P w N c M Z _) ((put_full w N c M Z L k v d h hk hn hfull hp).mono (fun e w' h => ⟨h.1, ⟨_, h.2.1, rfl⟩, h.2.2⟩))
theorem Put_nil (w : World) (k : Int) (v : ByteArray) (d : Bool) : Calls Try.prog 31 #[.pointer none, .int .i64 k, .string v, .bool d] w fun e w' => e = stays 1 ∧ Below w.heap.size w w' :=
  Put_of w _ k v d 1 (fun W => Below w.heap.size w W) (fun W o q h => ((h.alloc h.size o).trans ⟨rfl, rfl, rfl, Nat.le_refl _, fun _ _ => rfl⟩)) ((put_nil w k v d).mono (fun e w' h => ⟨h.1, by rw [h.2]; exact Below.refl _ _⟩))

set_option maxHeartbeats 1000000 in
theorem Put_goes (w : World) (N c M Z : Nat) (L1 L2 : List T) (t : T) (k : Int) (v : ByteArray) (d : Bool) (h : CAt w N c M Z (L1 ++ t :: L2)) (hk : good k) (hn : fnd (L1 ++ t :: L2) k = none) (hfull : (L1 ++ t :: L2).length = M) (hp : ∀ x ∈ L1, x.p ≠ 0) (ht : t.p = 0) (hZ : Z ≤ 1000000) (hN : N ≤ w.heap.size) :
    Calls Try.prog 31 #[.pointer (some ⟨c, 0, none⟩), .int .i64 k, .string v, .bool d] w fun e w' => e = .returned (.tuple #[.int .i64 t.k, .string t.v, .bool true, .bool t.d, .int .i64 0]) ∧ (∃ L', CAt w' N c M (Z + 1) L' ∧ ∃ b, L' = L1 ++ L2 ++ [⟨b, k, v, d, 0⟩]) ∧ Fr N w w' := by
  have H := hide (put_goes w N c M Z L1 L2 t k v d h hk hn hfull hp ht hZ hN)
  clear h hk hn hfull hp ht hZ hN
  go_enter Try.func31, Try.ntmps31
  go_wp2_with fail
  refine (unhide H).mono ?_
  rintro e1 w1 ⟨rfl, ⟨b, p1⟩, ⟨q4, q5, hb⟩, f1⟩
  have H1 := hide p1
  have F1 := hide f1
  obtain ⟨t0, t1, t2, _⟩ := cell_t hb
  clear p1 hb f1
  go_wp2
  go_quiet (fail)
  go_wp2
  exact bodyPost_ret (v := .tuple #[.int .i64 t.k, .string t.v, .bool true, .bool t.d, .int .i64 0]) (by simp [results, Try.results31, go_sem]) rfl ⟨rfl, ⟨_, (unhide H1).drewN _, b, rfl⟩, (unhide F1).drewN _⟩
end Go.Proofs.Ytmhlfbgchhmffaa.Is
