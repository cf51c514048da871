/-
  DERIVED. Keys and Dirty of a cache with numbers for keys, at one instance.
-/
import Derived.Test.YtmhlfbgchhmffaaCopsIi
import Derived.Test.YtmhlfbgchhmffaaCints
namespace Go.Proofs.Ytmhlfbgchhmffaa.Ii
open Go.RowKit Go.Maps Go.Proofs.Ytmhlfbgchhmffaa
set_option linter.unusedVariables false

theorem enters_ok {f : FuncId} {fn : Func} {c : Code} (hf : Try.prog.funcs[f]? = some fn) (hname : (fn.name == "runtime.NumGoroutine") = false) (hb : fn.body = some c) (args : Array Value) (w : World) : (callFunc f args).run Try.prog w = .ok (.enter f args) w := by
  have h1 : fn.name ≠ "runtime.NumGoroutine" := by simpa using hname
  simp [callFunc, hf, h1, hb]
theorem Keys1_any (w : World) (v : Value) : Calls Try.prog 53 #[v] w fun e w' => e = .returned (.bool true) ∧ w' = w := by
  go_enter Try.func53, Try.ntmps53
  go_wp2
  go_ret
  exact ⟨rfl, rfl⟩
theorem Dirty1_any (w : World) (t : T) (p n : Option Nat) (h : w.heap[t.b]? = some (.cells (tcells kv vv t p n) 111 (0, 0))) : Calls Try.prog 54 #[.pointer (some ⟨t.b, 0, none⟩)] w fun e w' => e = .returned (.bool t.d) ∧ w' = w := by
  obtain ⟨_, _, c2, _, _, _⟩ := cell_t h
  clear h
  go_enter Try.func54, Try.ntmps54
  go_wp2
  go_ret
  exact ⟨rfl, rfl⟩

theorem Ls.below {w w' : World} {l : Nat} {L : List T} (h : LsAt w l L) (hb : Below w.heap.size w w') : LsAt w' l L :=
  h.kept (hb.block l h.lt) (fun t ht => by
    obtain ⟨C, hC⟩ := h.seg.blk t ht
    exact hb.block _ (lt_of_block hC))

set_option maxRecDepth 20000 in
set_option maxHeartbeats 2000000 in
theorem keys_any (w : World) (l fc : Nat) (P : T → Bool) (L : List T) (h : LsAt w l L) (hlen : L.length ≤ 1024) (hent : ∀ args w, (callFunc fc args).run Try.prog w = .ok (.enter fc args) w) (hC : ∀ (W : World) (t : T) (p n : Option Nat), t ∈ L → W.heap[t.b]? = some (.cells (tcells kv vv t p n) 111 (0, 0)) → Calls Try.prog fc #[.pointer (some ⟨t.b, 0, none⟩)] W fun e w' => e = .returned (.bool (P t)) ∧ w' = W) :
    Calls Try.prog 52 #[.pointer (some ⟨l, 0, none⟩), .func (.func fc) #[] #[]] w fun e w' => ∃ u, e = .returned u ∧ ZOwn w' w.heap.size u ((L.filter P).map (·.k)) ∧ Below w.heap.size w w' := by
  obtain ⟨c0, _, _⟩ := cell_l h
  have HS := hide h
  have HC := hide hC
  clear h hC
  go_enter Try.func52, Try.ntmps52
  go_wp2
  go_loopw [5, 6] (fun ks q wr => ∃ (L1 L2 : List T), Hid (L = L1 ++ L2) ∧ q = ptr (hd L2 none) ∧ Hid (ZOwn wr w.heap.size ks ((L1.filter P).map (·.k))) ∧ Hid (Below w.heap.size w wr)) (fun _ q _ => restL L (blkOf q))
  case atStart => exact ⟨[], L, hide rfl, rfl, hide (ZOwn.nil _ _), hide (Below.refl _ _)⟩
  case round =>
    obtain ⟨L1, L2, HE, rfl, HZ, HB⟩ := hrel
    cases L2 with
    | nil =>
      simp only [hd_nil, ptr_none]
      go_wp2
      go_ret
      refine ⟨_, rfl, ?_, unhide HB⟩
      rw [unhide HE, List.append_nil]
      exact unhide HZ
    | cons t r =>
      have hb : wr.heap[t.b]? = some (.cells (tcells kv vv t (lst none L1) (hd r none)) 111 (0, 0)) := by
        have h1 := Ls.below (unhide HS) (unhide HB)
        rw [unhide HE] at h1
        exact h1.at
      obtain ⟨ck, _, _, _, _, c5⟩ := cell_t hb
      have htb := lt_of_block hb
      have HBk := hide hb
      have hm : t ∈ L := by rw [unhide HE]; simp
      have hnd : ((L1 ++ t :: r).map (·.b)).Nodup := by
        have := (unhide HS).nd
        rw [unhide HE] at this
        exact this
      have hmeas := restL_next hnd
      rw [← unhide HE] at hmeas
      have HM : Hid (restL L (blkOf (ptr (hd r none))) < restL L (some t.b)) := hide (by cases r <;> exact hmeas)
      have hw : w.heap.size ≤ wr.heap.size := (unhide HB).size
      have hl1 : ((L1.filter P).map (·.k)).length ≤ 65536 := by
        have h1 := List.length_filter_le P L1
        have h2 : L1.length ≤ L.length := by rw [unhide HE]; simp
        simp
        omega
      simp only [hd_cons, ptr_some]
      clear hb hnd hmeas
      cases hp : P t with
      | true =>
        go_wp2_with fail
        refine (unhide HC wr t _ _ hm (unhide HBk)).mono ?_
        rw [hp]
        rintro e w1 ⟨rfl, rfl⟩
        go_wp2_with (at_builtin; refine wpList_append_z rfl (.tmp 20) (.tmp 25) rfl w.heap.size _ _ rfl (ZOwn.below (unhide HZ) ((Below.refl _ _).alloc (Nat.le_refl _) _)) ?q1 hl1 ⟨w1.heap.size, 0, none⟩ 1 t.k rfl ?q2 ?_)
        case q1 => simp; omega
        case q2 => exact (cell_of_row _ _ _ _ _ _ (heap_alloc_new _ _)).trans rfl
        intro v' w2 hz2 hg2
        have hb2 : Below w.heap.size w1 w2 := ((Below.refl w.heap.size w1).alloc hw _).grown hg2 (by simp; omega) (fun q hq => ((unhide HZ).row hq).1)
        have c52 : w2.cell? ⟨t.b, 5, none⟩ = some (ptr (hd r none)) := by
          refine (hg2.cell (a := ⟨t.b, 5, none⟩) ((Below.cell ((Below.refl w1.heap.size w1).alloc (Nat.le_refl _) _) (p := ⟨t.b, 5, none⟩) htb).trans c5) ?_)
          intro e
          obtain ⟨_, cur, hcur⟩ := (unhide HZ).row e.symm
          have h1 := Option.some.inj (hcur.symm.trans (unhide HBk))
          injection h1 with _ h2 _
          exact absurd h2 (by decide)
        have HZ2 := hide hz2
        have HB2 := hide ((unhide HB).trans hb2)
        clear hz2 hg2 hb2
        go_wp2
        go_roundw
        case rel => exact ⟨L1 ++ [t], r, hide (by rw [unhide HE]; simp), rfl, hide (by simpa [hp] using unhide HZ2), HB2⟩
        case measure => exact unhide HM
      | false =>
        go_wp2_with fail
        refine (unhide HC wr t _ _ hm (unhide HBk)).mono ?_
        rw [hp]
        rintro e w1 ⟨rfl, rfl⟩
        go_wp2
        go_roundw
        case rel => exact ⟨L1 ++ [t], r, hide (by rw [unhide HE]; simp), rfl, hide (by simpa [hp] using unhide HZ), HB⟩
        case measure => exact unhide HM

set_option maxHeartbeats 1000000 in
theorem Keys_any (w : World) (N c M Z : Nat) (L : List T) (h : CAt w N c M Z L) : Calls Try.prog 28 #[.pointer (some ⟨c, 0, none⟩)] w fun e w' => ∃ u, e = .returned u ∧ ZOwn w' w.heap.size u (L.map (·.k)) ∧ Below w.heap.size w w' := by
  have H := hide h
  obtain ⟨m, l, n, D, h⟩ := h
  have c2 := h.c2
  have HL := hide h.ls
  have hlen : L.length ≤ 1024 := by have := h.len; have := h.m2; omega
  clear h
  by_cases e : L.length = 0
  · have hd : decide (L.length = 0) = true := by simpa using e
    obtain rfl : L = [] := List.eq_nil_of_length_eq_zero e
    go_enter Try.func28, Try.ntmps28
    go_wp2_with fail
    refine (isEmpty_any w N c M Z [] (unhide H)).mono ?_
    rintro e1 w1 ⟨rfl, rfl⟩
    go_wp2
    go_ret
    exact ⟨_, rfl, ZOwn.nil _ _, Below.refl _ _⟩
  · have hd : decide (L.length = 0) = false := by simpa using e
    go_enter Try.func28, Try.ntmps28
    go_wp2_with fail
    refine (isEmpty_any w N c M Z L (unhide H)).mono ?_
    rintro e1 w1 ⟨rfl, rfl⟩
    go_wp2_with fail
    refine (keys_any w1 l 53 (fun _ => true) L (unhide HL) hlen (enters_ok Try.func53 (by kernel_rfl) rfl) (fun W t p n _ _ => Keys1_any W _)).mono ?_
    rintro e1 w2 ⟨u, rfl, hz, hb⟩
    have HZ := hide hz
    have HB := hide hb
    clear hz hb
    go_wp2
    go_ret
    have e1 : L.filter (fun _ => true) = L := List.filter_eq_self.2 (fun _ _ => rfl)
    exact ⟨u, rfl, e1 ▸ unhide HZ, unhide HB⟩
theorem Keys_nil (w : World) : Calls Try.prog 28 #[.pointer none] w fun e w' => e = .returned (.slice none 0 0) ∧ w' = w := by
  go_enter Try.func28, Try.ntmps28
  go_wp2_with fail
  refine (isEmpty_nil w).mono ?_
  rintro e1 w1 ⟨rfl, rfl⟩
  go_wp2
  go_ret
  exact ⟨rfl, rfl⟩
set_option maxHeartbeats 1000000 in
theorem Dirty_any (w : World) (N c M Z : Nat) (L : List T) (h : CAt w N c M Z L) : Calls Try.prog 29 #[.pointer (some ⟨c, 0, none⟩)] w fun e w' => ∃ u, e = .returned u ∧ ZOwn w' w.heap.size u ((L.filter (·.d)).map (·.k)) ∧ Below w.heap.size w w' := by
  have H := hide h
  obtain ⟨m, l, n, D, h⟩ := h
  have c2 := h.c2
  have HL := hide h.ls
  have hlen : L.length ≤ 1024 := by have := h.len; have := h.m2; omega
  clear h
  by_cases e : L.length = 0
  · have hd : decide (L.length = 0) = true := by simpa using e
    obtain rfl : L = [] := List.eq_nil_of_length_eq_zero e
    go_enter Try.func29, Try.ntmps29
    go_wp2_with fail
    refine (isEmpty_any w N c M Z [] (unhide H)).mono ?_
    rintro e1 w1 ⟨rfl, rfl⟩
    go_wp2
    go_ret
    exact ⟨_, rfl, ZOwn.nil _ _, Below.refl _ _⟩
  · have hd : decide (L.length = 0) = false := by simpa using e
    go_enter Try.func29, Try.ntmps29
    go_wp2_with fail
    refine (isEmpty_any w N c M Z L (unhide H)).mono ?_
    rintro e1 w1 ⟨rfl, rfl⟩
    go_wp2_with fail
    refine (keys_any w1 l 54 (fun t => t.d) L (unhide HL) hlen (enters_ok Try.func54 (by kernel_rfl) rfl) (fun W t p n _ hb => Dirty1_any W t p n hb)).mono ?_
    rintro e1 w2 ⟨u, rfl, hz, hb⟩
    have HZ := hide hz
    have HB := hide hb
    clear hz hb
    go_wp2
    go_ret
    exact ⟨u, rfl, unhide HZ, unhide HB⟩
theorem Dirty_nil (w : World) : Calls Try.prog 29 #[.pointer none] w fun e w' => e = .returned (.slice none 0 0) ∧ w' = w := by
  go_enter Try.func29, Try.ntmps29
  go_wp2_with fail
  refine (isEmpty_nil w).mono ?_
  rintro e1 w1 ⟨rfl, rfl⟩
  go_wp2
  go_ret
  exact ⟨rfl, rfl⟩
end Go.Proofs.Ytmhlfbgchhmffaa.Ii
