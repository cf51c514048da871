/-
  DERIVED. The walk of Read.
-/
import Derived.Test.YtkgepklmhdjjnaaGreatDoorShz
namespace Go.Proofs.YtkgepklmhdjjnaaGreatDoor
open Go.RowKit Go.Maps Go.Sort Go.Shelf
set_option linter.unusedVariables false

theorem mm1 (w : World) : (Instr.makeMap 66 none).run Tryz.prog w = .ok (.map (some w.heap.size)) (w.alloc (.map #[] 0)) := rfl

theorem rd_start (w : World) : RdSt w ((w.alloc (.map #[] 0)).alloc (.cells #[.map (some w.heap.size)] 66)) (w.heap.size + 1) w.heap.size [] := by
  have e1 : (w.alloc (.map #[] 0)).heap.size = w.heap.size + 1 := by simp
  have hc := heap_alloc_new (w.alloc (.map #[] 0)) (.cells #[.map (some w.heap.size)] 66)
  rw [e1] at hc
  refine ⟨((Below.refl _ _).alloc (Nat.le_refl _) _).alloc (by simp) _, hc, by omega, by omega, (SnAt.made w).frame ?_⟩
  exact Below.heap_alloc _ _ _ (by simp)

/-- What Read reads. -/
def RdPost (w : World) (r : Except Int (List Fld)) (e : Ending) (w' : World) : Prop :=
  match r with
  | .error n => e = .returned (.tuple #[.slice none 0 0, .int .i64 n]) ∧ Below w.heap.size w w'
  | .ok S => ∃ (v : Value) (R : List Fld), e = .returned (.tuple #[v, .int .i64 0]) ∧ FOwn w' w.heap.size v R ∧ IsRec S R ∧ R.length ≤ 1000 ∧ Below w.heap.size w w'

theorem readAll_err {t : List UInt8} {n : Int} (h : readAll t = .error n) : n ≠ 0 := by
  unfold readAll at h
  split at h
  · cases h
  · have : ∀ (ps : List (List UInt8)) (S : List Fld), foldParts S ps = .error n → n ≠ 0 := by
      intro ps
      induction ps with
      | nil => intro S h; cases h
      | cons p ps ih =>
        intro S h
        rw [foldParts] at h
        split at h
        · rename_i e he; cases h; exact readStep_err he
        · exact ih _ h
    exact this _ _ h

set_option maxHeartbeats 2000000 in
theorem Read_bad (t : List UInt8) (w : World) (ht : t.length ≤ 140737488355328) (hva : Vars w) (n : Int) (hr : readAll t = .error n) :
    Calls Tryz.prog 10 #[sv t] w (RdPost w (.error n)) := by
  have hn : (n != 0) = true := by simp [readAll_err hr]
  have mk := mm1
  have HS := hide (rd_start w)
  have HE : Hid (∀ W, RdSt w W (w.heap.size + 1) w.heap.size [] → Calls Tryz.prog 36 #[sv t, .func (.func 37) #[] #[.pointer (some ⟨w.heap.size + 1, 0, none⟩)]] W (EachPost w (w.heap.size + 1) w.heap.size (.error n))) := hide (fun W hW => by have := eachPart_any w W _ _ t hW hva ht; rwa [hr] at this)
  clear hr hva
  go_enter Tryz.func10, Tryz.ntmps10
  go_wp2_with (go_at_call 36; refine (unhide HE _ (unhide HS)).mono ?_; rintro e w1 ⟨rfl, S, hs, -⟩; simp only [errS]; have HS1 := hide hs; clear hs)
  go_ret2
  exact ⟨rfl, (unhide HS1).bel⟩

theorem SOwn.slice {w : World} {base : Nat} {v : Value} {T : List (List UInt8)} (h : SOwn w base v T) : ∃ a c, v = .slice a T.length c ∧ T.length ≤ c ∧ (T.length ≠ 0 → ∃ g, a = some ⟨g, 0, none⟩ ∧ ∀ i x, T[i]? = some x → w.cell? ⟨g, i, none⟩ = some (sv x)) := by
  rcases h.2 with ⟨rfl, h0⟩ | ⟨g, cap, cur, rfl, hb, hg, hn, hm, hs, ht⟩
  · exact ⟨none, 0, by rw [h0], by omega, fun hz => absurd h0 hz⟩
  · refine ⟨_, cap, rfl, hn, fun _ => ⟨g, rfl, fun i x hx => ?_⟩⟩
    have hil := (List.getElem?_eq_some_iff.1 hx).1
    have e : (cur.toList.take (T.length * 1))[i]? = (T.map sv)[i]? := by rw [ht]
    rw [List.getElem?_take_of_lt (by omega), List.getElem?_map, hx] at e
    simp only [World.cell?, hg]
    simpa using e
theorem SOwn.frame {w w' : World} {base : Nat} {v : Value} {T : List (List UInt8)} (h : SOwn w base v T) (hk : ∀ (p : Nat) (cur : Array Value) (t : TypeId) (fr : Nat × Nat), w.heap[p]? = some (.cells cur t fr) → t ≠ 33 → w'.heap[p]? = w.heap[p]?) : SOwn w' base v T := by
  obtain ⟨h1, h2⟩ := h
  refine ⟨h1, ?_⟩
  rcases h2 with h | ⟨g, cap, cur, a, b, c, r⟩
  · exact .inl h
  · exact .inr ⟨g, cap, cur, a, b, (hk g _ _ _ c (by decide)).trans c, r⟩
theorem RdSt.append {w0 w w' : World} {C m B : Nat} {S : List Fld} (h : RdSt w0 w C m S) (hb : Below B w w') (hB : w0.heap.size ≤ B) (hm : m < B) (hk : ∀ (p : Nat) (cur : Array Value) (t : TypeId) (fr : Nat × Nat), w.heap[p]? = some (.cells cur t fr) → t ≠ 33 → w'.heap[p]? = w.heap[p]?) : RdSt w0 w' C m S :=
  ⟨h.bel.trans (hb.mono hB), (hk C _ _ _ h.cell (by decide)).trans h.cell, h.geC, h.gem, h.sn.frame (hb.block m hm)⟩

/-- Where Read stands in its loop. -/
structure RlSt (w0 wr : World) (C m B : Nat) (S : List Fld) (v : Value) (T : List (List UInt8)) (r : Value) (k : Nat) : Prop where
  rd : RdSt w0 wr C m S
  row : SOwn wr 0 v T
  out : FOwn wr B r ((T.take k).map (fun k => (getF S k).getD fld0))
  le : B ≤ wr.heap.size

theorem rl_next {w0 wr w' : World} {C m B : Nat} {S : List Fld} {v r r' : Value} {T : List (List UInt8)} {k : Nat} {x : List UInt8} (h : RlSt w0 wr C m B S v T r k) (hx : T[k]? = some x) (o : Obj) (hm : m < B) (hB : w0.heap.size ≤ B)
    (ho : FOwn w' B r' ((T.take k).map (fun k => (getF S k).getD fld0) ++ [(getF S x).getD fld0])) (hb : Below B (wr.alloc o) w') (hk : ∀ (p : Nat) (cur : Array Value) (t : TypeId) (fr : Nat × Nat), (wr.alloc o).heap[p]? = some (.cells cur t fr) → t ≠ 33 → w'.heap[p]? = (wr.alloc o).heap[p]?) : RlSt w0 w' C m B S v T r' (k + 1) := by
  have ha := (Below.refl wr.heap.size wr).alloc (Nat.le_refl _) o
  refine ⟨(h.rd.grown ha).append hb hB hm hk, (h.row.below ha (Nat.le_refl _)).frame hk, ?_, Nat.le_trans (Nat.le_trans h.le ha.size) hb.size⟩
  rw [List.take_add_one, hx]
  simpa using ho

theorem readStep_names {S S' : List Fld} {p : List UInt8} (h : readStep S p = .ok S') (hS : ∀ f ∈ S, nameB f.name = true) : ∀ f ∈ S', nameB f.name = true := by
  unfold readStep at h
  split at h
  · cases h
  · split at h
    · cases h
    · rename_i g hg
      split at h
      · cases h
      · cases h
        intro f hf
        rcases List.mem_append.1 hf with hf | hf
        · exact hS f hf
        · rw [List.mem_singleton.1 hf]; exact readP_name hg
theorem foldParts_names : ∀ (ps : List (List UInt8)) {S S' : List Fld}, foldParts S ps = .ok S' → (∀ f ∈ S, nameB f.name = true) → ∀ f ∈ S', nameB f.name = true
  | [], S, S', h, ho => by cases h; exact ho
  | p :: ps, S, S', h, ho => by
    rw [foldParts] at h
    split at h
    · cases h
    · rename_i S2 hr; exact foldParts_names ps h (readStep_names hr ho)
theorem readAll_nameB {t : List UInt8} {S : List Fld} (h : readAll t = .ok S) : ∀ f ∈ S, nameB f.name = true := by
  unfold readAll at h
  split at h
  · cases h; intro f hf; cases hf
  · exact foldParts_names _ h (fun f hf => by cases hf)
theorem readAll_names {t : List UInt8} {S : List Fld} (h : readAll t = .ok S) : ∀ f ∈ S, f.name.length ≤ maxLen := fun f hf => by
  have := (nameB_len (readAll_nameB h f hf)).2
  unfold maxLen; omega
theorem FOwn.mono {w : World} {base b2 : Nat} {v : Value} {l : List Fld} (h : FOwn w base v l) (hb : b2 ≤ base) : FOwn w b2 v l := by
  obtain ⟨h1, h2⟩ := h
  refine ⟨h1, ?_⟩
  rcases h2 with h | ⟨g, cap, cur, a, b, c⟩
  · exact .inl h
  · exact .inr ⟨g, cap, cur, a, by omega, c⟩

set_option maxHeartbeats 4000000 in
theorem Read_ok (t : List UInt8) (w : World) (ht : t.length ≤ 140737488355328) (hva : Vars w) (S : List Fld) (hr : readAll t = .ok S) :
    Calls Tryz.prog 10 #[sv t] w (RdPost w (.ok S)) := by
  obtain ⟨ho, hS16⟩ := readAll_once hr
  have mk := mm1
  have HS := hide (rd_start w)
  have HE : Hid (∀ W, RdSt w W (w.heap.size + 1) w.heap.size [] → Calls Tryz.prog 36 #[sv t, .func (.func 37) #[] #[.pointer (some ⟨w.heap.size + 1, 0, none⟩)]] W (EachPost w (w.heap.size + 1) w.heap.size (.ok S))) := hide (fun W hW => by have := eachPart_any w W _ _ t hW hva ht; rwa [hr] at this)
  have HOnce := hide ho
  have HFit : Hid (∀ f ∈ S, f.name.length ≤ maxLen) := hide (readAll_names hr)
  clear hr hva ho
  go_enter Tryz.func10, Tryz.ntmps10
  go_upto_region 5 with (go_at_call 36; refine (unhide HE _ (unhide HS)).mono ?_; rintro e w1 ⟨rfl, S0, hs, he⟩; rw [he _ rfl] at hs; simp only [errS]; have HS1 := hide hs; clear hs he)
  obtain ⟨C, hC⟩ : ∃ C, C = w.heap.size + 1 := ⟨_, rfl⟩
  obtain ⟨m, hm⟩ : ∃ m, m = w.heap.size := ⟨_, rfl⟩
  rw [← hC, ← hm] at HS1
  rw [← hC]
  have c1 := (unhide HS1).at
  have l1 := (unhide HS1).sn.len 3
  obtain ⟨o, mkf, own2⟩ := make_flds w1 S.length (by omega)
  have HO2 := hide own2
  have HS2 := hide ((unhide HS1).grown ((Below.refl _ _).alloc (Nat.le_refl _) o))
  have hw1 := (unhide HS1).bel.size
  have hmB : m < w1.heap.size := (unhide HS1).sn.lt
  have hz2 : w1.heap.size ≤ (w1.alloc o).heap.size := by simp
  obtain ⟨w2, hw2⟩ : ∃ w2, w2 = w1.alloc o := ⟨_, rfl⟩
  rw [← hw2] at mkf HO2 HS2 hz2
  clear own2 hw2 mk HE HS hC hm
  go_upto_region 6 with fail
  clear c1 l1 mkf
  have c2 := (unhide HS2).at
  have HSort := hide (sorted_sn (unhide HS2).sn (by omega))
  go_upto_region 7 with (first | (go_at_call 40; refine (keys_go _ _).mono ?_; rintro e w' ⟨rfl, rfl⟩) | (go_at_call 39; refine (unhide HSort).mono ?_; rintro e w3 ⟨v, T, rfl, hrow, hT, hmem, hTl, b3⟩; have HRow := hide hrow; have HT := hide hT; have HMem := hide hmem; have HS3 := hide ((unhide HS2).grown b3); have HO3 := hide ((unhide HO2).below b3 (Nat.le_refl _)); have hz3 := Nat.le_trans hz2 b3.size; obtain ⟨va, vc, rfl, hvc, -⟩ := (unhide HRow).slice; clear hrow hT hmem b3))
  have HSt : Hid (RlSt w w3 C m w1.heap.size S (.slice va T.length vc) T (.slice (some ⟨w1.heap.size, 0, none⟩) 0 S.length) 0) := hide ⟨unhide HS3, unhide HRow, unhide HO3, hz3⟩
  obtain ⟨N, hN⟩ : ∃ N, N = T.length := ⟨_, rfl⟩
  have HN := hide hN
  rw [← hN] at hvc hTl HSt ⊢
  clear HS1 HS2 HS3 HO2 HO3 HRow HSort c2 hN
  go_loopw [6, 8, 23] (fun r _ i wr => ∃ (k : Nat), k ≤ N ∧ i = .int .i64 k ∧ Hid (RlSt w wr C m w1.heap.size S (.slice va N vc) T r k)) (fun _ _ i _ => N - (intOf i).toNat)
  case atStart => exact ⟨0, by omega, rfl, HSt⟩
  case round =>
    obtain ⟨k, hk, rfl, HR⟩ := hrel
    clear HSt
    by_cases hlt : k < N
    · have hkl : k < T.length := by have := unhide HN; omega
      obtain ⟨x, hx⟩ : ∃ x, T[k]? = some x := ⟨_, List.getElem?_eq_getElem hkl⟩
      obtain ⟨a', c', e, _, hg⟩ := (unhide HR).row.slice
      cases e
      obtain ⟨g, rfl, hcell⟩ := hg (by omega)
      have cx := hcell k x hx
      have c3 := (unhide HR).rd.at
      have hxl : x.length ≤ maxLen := by
        obtain ⟨f, hf, e⟩ := (unhide HMem x).1 (List.mem_of_getElem? hx)
        have := unhide HFit f hf
        rw [← e]; exact this
      have lk := (unhide HR).rd.sn.look1 x hxl
      obtain ⟨⟨an, ak, ai, az⟩, hgf⟩ : ∃ f, f = (getF S x).getD fld0 := ⟨_, rfl⟩
      rw [← hgf] at lk
      have HX := hide hx
      have HGF := hide hgf
      have HOut := hide ((unhide HR).out.below ((Below.refl _ _).alloc (Nat.le_refl _) (.cells (fv ⟨an, ak, ai, az⟩) 33)) (Nat.le_refl _))
      have HBx := hide (FBox.new wr ⟨an, ak, ai, az⟩)
      have hle := (unhide HR).le
      have hzz : wr.heap.size ≤ (wr.alloc (.cells (fv ⟨an, ak, ai, az⟩) 33)).heap.size := by simp
      have hrl : ((T.take k).map (fun k => (getF S k).getD fld0)).length ≤ 2000000000 := by simp; omega
      clear hx hgf hcell hg
      go_wp2_with (at_builtin; refine wpList_append_fld rfl (.tmp 27) (.tmp 31) rfl w1.heap.size _ ((T.take k).map (fun k => (getF S k).getD fld0)) rfl (unhide HOut) wr.heap.size ⟨an, ak, ai, az⟩ rfl (unhide HBx) hrl (Nat.le_trans hle hzz) ?_; intro v' w5 own5 b5 k5; have HR5 := hide (rl_next (unhide HR) (unhide HX) _ hmB hw1 (by rw [← unhide HGF]; exact own5) b5 k5); clear own5 b5 k5)
      go_roundw
      case rel => exact ⟨k + 1, by omega, by go_num, HR5⟩
      case measure => simp [intOf]; omega
    · have HF : Hid (T.take k = T) := hide (List.take_of_length_le (by have := unhide HN; omega))
      have HOut := hide (unhide HR).out
      rw [unhide HF] at HOut
      have HRec := hide (isRec_of (unhide HOnce) (unhide HT) (unhide HMem))
      have HBel := hide (unhide HR).rd.bel
      have HNT := hide (unhide HN)
      go_wp2_with fail
      go_ret2
      exact ⟨_, _, rfl, (unhide HOut).mono hw1, unhide HRec, (by have := unhide HNT; simp; omega), unhide HBel⟩
end Go.Proofs.YtkgepklmhdjjnaaGreatDoor
