/-
  DERIVED. The document's Read.
-/
import Derived.Test.YtkgepklmhdjjnaaGreatDoorShRc
import Derived.Test.YtkgepklmhdjjnaaGreatDoorShRv
import Derived.Test.YtkgepklmhdjjnaaGreatDoorShR9
import Derived.Test.YtkgepklmhdjjnaaGreatDoorShkm
import Derived.Deep.RegionHeld3
namespace Go.Proofs.YtkgepklmhdjjnaaGreatDoor
open Go.RowKit
set_option linter.unusedVariables false

theorem cutE_at : ∀ (p : List UInt8) (j : Nat), (∀ c ∈ p.take j, c ≠ 61) → p[j]? = some 61 → cutA 61 p = (p.take j, some (p.drop (j + 1)))
  | [], j, _, h => by simp at h
  | d :: r, 0, _, h => by
    have : d = 61 := by simpa using h
    rw [cutA, if_pos this]; rfl
  | d :: r, j + 1, hn, h => by
    have hd : d ≠ 61 := hn d (by simp)
    rw [cutA, if_neg hd, cutE_at r j (fun c hc => hn c (by simp [hc])) (by simpa using h)]
    rfl
theorem cutA_no : ∀ (p : List UInt8), (∀ c ∈ p, c ≠ 61) → cutA 61 p = (p, none)
  | [], _ => rfl
  | d :: r, hn => by
    rw [cutA, if_neg (hn d (by simp)), cutA_no r (fun c hc => hn c (by simp [hc]))]

theorem readP_no {p : List UInt8} (h : ∀ c ∈ p, c ≠ 61) : readP p = .error 121 := by
  unfold readP; rw [cutA_no p h]
theorem readP_nm {p : List UInt8} {j : Nat} (hn : ∀ c ∈ p.take j, c ≠ 61) (h : p[j]? = some 61) (hb : nameB (p.take j) = false) : readP p = .error 121 := by
  unfold readP; rw [cutE_at p j hn h]; simp only; rw [hb]; rfl
theorem readP_val {p : List UInt8} {j : Nat} (hn : ∀ c ∈ p.take j, c ≠ 61) (h : p[j]? = some 61) (hb : nameB (p.take j) = true) : readP p = match valN (p.take j) (p.drop (j + 1)) with
    | some f => .ok f
    | none => .error 122 := by
  unfold readP; rw [cutE_at p j hn h]; simp only; rw [hb]
  unfold valN
  cases readV (p.drop (j + 1)) <;> rfl
theorem valN_name {nm v : List UInt8} {f : Fld} (h : valN nm v = some f) : f.name = nm := by
  unfold valN at h
  cases hr : readV v with
  | none => rw [hr] at h; cases h
  | some g => rw [hr] at h; rw [← Option.some.inj h]

theorem rec_has {S R : List Fld} (h : IsRec S R) (nm : List UInt8) : hasF R nm = S.any (fun g => g.name == nm) := by
  unfold hasF
  rw [Bool.eq_iff_iff, List.any_eq_true, List.any_eq_true]
  exact ⟨fun ⟨x, hx, e⟩ => ⟨x, (h.2 x).1 hx, e⟩, fun ⟨x, hx, e⟩ => ⟨x, (h.2 x).2 hx, e⟩⟩
theorem rec_set {S R : List Fld} (h : IsRec S R) (f : Fld) (hn : hasF R f.name = false) : IsRec (S ++ [f]) (setF R f) := by
  refine ⟨set_rising h.1 f, fun g => ⟨fun hg => ?_, fun hg => ?_⟩⟩
  · rcases set_sub hg with hg | rfl
    · exact List.mem_append.2 (.inl ((h.2 g).1 hg))
    · simp
  · rcases List.mem_append.1 hg with hg | hg
    · have hgR := (h.2 g).2 hg
      refine set_mem h.1 f hgR fun e => ?_
      unfold hasF at hn
      rw [List.any_eq_false] at hn
      exact hn g hgR (by simp [e])
    · rw [List.mem_singleton.1 hg]; exact set_self R f
theorem find_neg {R : List Fld} {nm : List UInt8} (h : hasF R nm = false) : findA R nm = -1 := by unfold findA; rw [h]; rfl
theorem find_pos {R : List Fld} {nm : List UInt8} (h : hasF R nm = true) : 0 ≤ findA R nm := by unfold findA; rw [if_pos h]; omega

theorem fold_err {S : List Fld} {p : List UInt8} {ps : List (List UInt8)} {e : Int} (h : readStep S p = .error e) : foldParts S (p :: ps) = .error e := by
  rw [foldParts, h]
theorem fold_ok {S S' : List Fld} {p : List UInt8} {ps : List (List UInt8)} (h : readStep S p = .ok S') : foldParts S (p :: ps) = foldParts S' ps := by
  rw [foldParts, h]

theorem splitA_len (c : UInt8) : ∀ (s : List UInt8), (∀ p ∈ splitA c s, p.length ≤ s.length) ∧ (splitA c s).length ≤ s.length + 1
  | [] => ⟨fun p hp => by simp [splitA] at hp; simp [hp], by simp [splitA]⟩
  | d :: r => by
    obtain ⟨h1, h2⟩ := splitA_len c r
    rw [splitA]
    by_cases h : d = c
    · rw [if_pos h]
      refine ⟨fun p hp => ?_, by simp; omega⟩
      rcases List.mem_cons.1 hp with rfl | hp
      · simp
      · have := h1 p hp; simp; omega
    · rw [if_neg h]
      obtain ⟨q, qs, hq⟩ := splitA_ne c r
      rw [hq] at h1 h2 ⊢
      refine ⟨fun p hp => ?_, by simp at h2 ⊢; omega⟩
      rcases List.mem_cons.1 hp with rfl | hp
      · have := h1 q (by simp); simp; omega
      · have := h1 p (by simp [hp]); simp; omega

/-- What the statement 'f, ok := value(..)' leaves: the field's box, and whether it is one. -/
def VlR (wr : World) (o : Option Fld) (t9 t10 : Value) (wx : World) : Prop :=
  ∃ (q : Nat) (f : Fld), t9 = .pointer (some ⟨q, 0, none⟩) ∧ t10 = .bool o.isSome ∧ FBox wx q f ∧ (∀ g, o = some g → f = g) ∧ Below wr.heap.size wr wx
theorem VlR.new {wr W : World} {o : Option Fld} {f : Fld} (b : Below wr.heap.size wr W) (hf : ∀ g, o = some g → f = g) : VlR wr o (.pointer (some ⟨W.heap.size, 0, none⟩)) (.bool o.isSome) (W.alloc (.cells (fv f) 33)) :=
  ⟨_, f, rfl, rfl, FBox.new W f, hf, b.alloc b.size _⟩
theorem VlR.put {wr W : World} {o : Option Fld} {f0 f : Fld} {q : Nat} (b : Below wr.heap.size wr W) (hq : wr.heap.size ≤ q) (h0 : FBox W q f0) (hf : ∀ g, o = some g → f = g) : VlR wr o (.pointer (some ⟨q, 0, none⟩)) (.bool o.isSome) ((((W.setCell ⟨q, 0, none⟩ (sv f.name)).setCell ⟨q, 1, none⟩ (.bool f.text)).setCell ⟨q, 2, none⟩ (.int .i64 f.n)).setCell ⟨q, 3, none⟩ (sv f.s)) :=
  ⟨_, f, rfl, rfl, h0.put f.name f.text f.n f.s, hf, below_put b hq f.name f.text f.n f.s⟩
theorem keep1 {w : World} {o : Obj} {a : Addr} {u : Value} (h : w.cell? a = some u) : (w.alloc o).cell? a = some u := (World.cell?_alloc_some _ _ _ (by rw [h]; rfl)).trans h
theorem keep1S {w : World} {g o1 q : Nat} {v0 v1 v2 v3 u : Value} (hne : g ≠ q) (h : w.cell? ⟨g, o1, none⟩ = some u) : ((((w.setCell ⟨q, 0, none⟩ v0).setCell ⟨q, 1, none⟩ v1).setCell ⟨q, 2, none⟩ v2).setCell ⟨q, 3, none⟩ v3).cell? ⟨g, o1, none⟩ = some u := by
  have e : ((((w.setCell ⟨q, 0, none⟩ v0).setCell ⟨q, 1, none⟩ v1).setCell ⟨q, 2, none⟩ v2).setCell ⟨q, 3, none⟩ v3).heap[g]? = w.heap[g]? := by
    rw [heap_setCell_other _ ⟨q, 3, none⟩ _ _ hne, heap_setCell_other _ ⟨q, 2, none⟩ _ _ hne, heap_setCell_other _ ⟨q, 1, none⟩ _ _ hne, heap_setCell_other _ ⟨q, 0, none⟩ _ _ hne]
  unfold World.cell? at h ⊢
  simp only at h ⊢
  rw [e]; exact h

/-- Where Read stands. -/
structure RsSt (w0 wr : World) (all : Except Int (List Fld)) (parts : List (List UInt8)) (lv v : Value) (k : Nat) (S R : List Fld) : Prop where
  bel : Below w0.heap.size w0 wr
  row : SOwn wr w0.heap.size lv parts
  own : FOwn wr w0.heap.size v R
  rcd : IsRec S R
  len : S.length = k ∧ R.length ≤ k ∧ k ≤ 16
  eq : all = foldParts S (parts.drop k)
theorem RsSt.grown {w0 wr w' : World} {all : Except Int (List Fld)} {parts : List (List UInt8)} {lv v : Value} {k : Nat} {S R : List Fld} (h : RsSt w0 wr all parts lv v k S R) (hb : Below wr.heap.size wr w') : RsSt w0 w' all parts lv v k S R :=
  ⟨h.bel.trans (hb.mono h.bel.size), h.row.below hb (Nat.le_refl _), h.own.below hb (Nat.le_refl _), h.rcd, h.len, h.eq⟩

set_option maxRecDepth 20000 in
set_option maxHeartbeats 8000000 in
theorem rRead_any (t : List UInt8) (w : World) (ht : t.length ≤ 1048576) : Calls Tryz.prog 11 #[sv t] w (RdPost w (readAll t)) := by
  rcases t with _ | ⟨c0, r0⟩
  · go_enter Tryz.func11, Tryz.ntmps11
    go_wp2_with fail
    go_ret2
    exact ⟨_, [], rfl, fown_nil w _, ⟨List.Pairwise.nil, fun f => Iff.rfl⟩, by simp, Below.refl _ _⟩
  · obtain ⟨t, hte⟩ : ∃ t, t = c0 :: r0 := ⟨_, rfl⟩
    have hall : readAll t = foldParts [] (splitA 38 t) := by unfold readAll; rw [if_neg (by rw [hte]; simp)]
    have htn : (t == ([] : List UInt8)) = false := by rw [hte]; rfl
    have htl : t.length ≠ 0 := by rw [hte]; simp
    rw [← hte] at ht ⊢
    have HCut : Hid (∀ W, Calls Tryz.prog 41 #[sv t, u8v 38] W fun e w' => ∃ v, e = .returned v ∧ SOwn w' W.heap.size v (splitA 38 t) ∧ Below W.heap.size W w') := hide (fun W => rCut_any t 38 W (by omega))
    obtain ⟨all, hal⟩ : ∃ all, all = readAll t := ⟨_, rfl⟩
    obtain ⟨parts, hpa⟩ : ∃ parts, parts = splitA 38 t := ⟨_, rfl⟩
    rw [← hal]
    rw [← hpa] at HCut hall
    rw [← hal] at hall
    have HA := hide hall
    have hte2 : t.isEmpty = false := by rw [hte]; rfl
    have hpl := splitA_len 38 t
    rw [← hpa] at hpl
    have HPL : Hid (∀ p ∈ parts, p.length ≤ 1048576) := hide (fun p hp => Nat.le_trans (hpl.1 p hp) ht)
    have hpn := hpl.2
    clear hte hall hal hpa hpl
    go_enter Tryz.func11, Tryz.ntmps11
    go_wp2_with (go_at_call 41; refine (unhide HCut _).mono ?_; rintro e w1 ⟨lv, rfl, own1, b1⟩; have HO1 := hide own1; have HB1 := hide b1; clear own1 b1)
    obtain ⟨la, lc, rfl, hlc, hrow⟩ := (unhide HO1).slice
    have H0 : Hid (RsSt w w1 all parts (.slice la parts.length lc) (.slice none 0 0) 0 [] []) := hide ⟨unhide HB1, unhide HO1, fown_nil _ _, ⟨List.Pairwise.nil, fun f => Iff.rfl⟩, ⟨rfl, Nat.le_refl _, by omega⟩, unhide HA⟩
    obtain ⟨PN, hPN⟩ : ∃ PN, PN = parts.length := ⟨_, rfl⟩
    have HPN := hide hPN
    have HLV : Hid (parts.length ≠ 0 → ∃ g, la = some ⟨g, 0, none⟩) := hide (fun h => by obtain ⟨g, hg, _⟩ := hrow h; exact ⟨g, hg⟩)
    rw [← hPN] at H0 hpn hlc ⊢
    clear hPN hrow HO1 HB1 HA HCut
    go_loopw [4, 6, 7, 8, 9, 10] (fun v i _ _ _ _ wr => ∃ (k : Nat) (S R : List Fld), i = .int .i64 k ∧ k ≤ PN ∧ Hid (RsSt w wr all parts (.slice la PN lc) v k S R)) (fun _ i _ _ _ _ _ => PN - (intOf i).toNat)
    case atStart => exact ⟨0, [], [], rfl, by omega, H0⟩
    case round =>
      clear H0
      obtain ⟨k, S, R, rfl, hk, HS⟩ := hrel
      obtain ⟨va, vc, rfl, hfv⟩ := (unhide HS).own.fdn
      have HFV := hide hfv
      obtain ⟨hSk, hRk, hk16⟩ := (unhide HS).len
      clear hfv
      by_cases hlt : k < PN
      · obtain ⟨p, hp⟩ : ∃ p, parts[k]? = some p := ⟨_, List.getElem?_eq_getElem (by rw [← unhide HPN]; exact hlt)⟩
        have hpm : p.length ≤ 1048576 := unhide HPL p (List.mem_of_getElem? hp)
        obtain ⟨g, rfl⟩ := unhide HLV (by rw [← unhide HPN]; omega)
        have HCell : Hid (∀ W, RsSt w W all parts (.slice (some ⟨g, 0, none⟩) PN lc) (.slice va R.length vc) k S R → W.cell? ⟨g, k, none⟩ = some (sv p)) := hide (fun W hW => by
          obtain ⟨a', c', e, _, hx⟩ := hW.row.slice
          cases e
          obtain ⟨g', eg, hc⟩ := hx (by rw [← unhide HPN]; omega)
          cases eg
          exact hc k p hp)
        have hc := unhide HCell _ (unhide HS)
        have HK : Hid (all = foldParts S (p :: parts.drop (k + 1))) := hide (by rw [(unhide HS).eq, List.drop_eq_getElem_cons (by rw [← unhide HPN]; exact hlt)]; congr 2; exact Option.some.inj ((List.getElem?_eq_getElem _).symm.trans hp))
        clear hp
        have hi1 : decide ((k : Int) < (PN : Int)) = true := decide_eq_true (by omega)
        have hi2 : (k : Int) < (PN : Int) := by omega
        by_cases h16 : 16 ≤ k
        · have d16 : decide ((16 : Int) ≤ (k : Int)) = true := decide_eq_true (by omega)
          have HE : Hid (all = .error 120) := hide (by rw [unhide HK]; exact fold_err (by unfold readStep; rw [if_pos (by omega)]))
          have BE := hide (unhide HS).bel
          clear HK h16 HS
          go_wp2_with fail
          go_ret2
          rw [unhide HE]
          exact ⟨rfl, unhide BE⟩
        · have d16 : decide ((16 : Int) ≤ (k : Int)) = false := decide_eq_false (by omega)
          have hS16 : S.length ≠ 16 := by omega
          have HST : Hid (∀ r, readP p = r → readStep S p = match r with | .error e => .error e | .ok f => if S.any (fun g => g.name == f.name) then .error 124 else .ok (S ++ [f])) := hide (fun r hr => by unfold readStep; rw [if_neg hS16, hr]; cases r <;> rfl)
          clear hS16 h16
          go_wp2_with fail
          rename World => W0
          go_loopw [7] (fun a wx => ∃ j : Nat, a = .int .i64 j ∧ j ≤ p.length ∧ Hid (∀ c ∈ p.take j, c ≠ 61) ∧ Hid (wx = W0)) (fun a _ => p.length - (intOf a).toNat)
          case atStart => exact ⟨0, rfl, by omega, hide (by simp), hide rfl⟩
          case round =>
            obtain ⟨j, rfl, hj, HNO, hw0⟩ := hrel
            have hw0' := unhide hw0
            subst hw0'
            clear hw0
            by_cases hjl : j < p.length
            · obtain ⟨d, hd⟩ : ∃ d, p[j]? = some d := ⟨_, List.getElem?_eq_getElem hjl⟩
              have hB := byte_at hd
              have hj1 : decide ((j : Int) < (p.length : Int)) = true := decide_eq_true (by omega)
              have hj2 : decide (j < p.length) = true := decide_eq_true hjl
              have HD := hide hd
              clear hd
              by_cases h61 : d = 61
              · have n61 : ((d.toNat : Int) != 61) = false := by rw [h61]; rfl
                have h61p : p[j]? = some 61 := by rw [unhide HD, h61]
                obtain ⟨nb, hnb⟩ : ∃ nb, nb = nameB (p.take j) := ⟨_, rfl⟩
                have HN : Hid (∀ W, Calls Tryz.prog 18 #[.string ((⟨p.toArray⟩ : ByteArray).extract 0 j)] W fun e w' => e = .returned (.bool nb) ∧ W = w') := hide (fun W => by rw [ext_take, hnb]; exact rName_any _ W (by simp; omega))
                have jc1 : (0 : Int) ≤ j := by omega
                have jc2 : (j : Int) ≤ p.length := by omega
                have jeq : ((j : Int) == (p.length : Int)) = false := by rw [beq_eq_false_iff_ne]; omega
                cases nb with
                | false =>
                  have HE : Hid (all = .error 121) := hide (by rw [unhide HK]; exact fold_err (unhide HST _ (readP_nm (unhide HNO) h61p hnb.symm)))
                  have BE := hide (unhide HS).bel
                  clear HK HNO HST hnb HS h61 h61p HD
                  go_wp2_with (go_at_call 18; refine (unhide HN _).mono ?_; rintro e w' ⟨rfl, rfl⟩)
                  go_ret2
                  rw [unhide HE]
                  exact ⟨rfl, unhide BE⟩
                | true =>
                  have HP := hide (readP_val (unhide HNO) h61p hnb.symm)
                  obtain ⟨nm, hnm⟩ : ∃ nm, nm = p.take j := ⟨_, rfl⟩
                  obtain ⟨vt, hvt⟩ : ∃ vt, vt = p.drop (j + 1) := ⟨_, rfl⟩
                  have hnl : nm.length ≤ 9223372036854775807 := by rw [hnm]; simp; omega
                  have HX : Hid ((⟨p.toArray⟩ : ByteArray).extract 0 j = ⟨nm.toArray⟩ ∧ (⟨p.toArray⟩ : ByteArray).extract (j + 1) p.length = ⟨vt.toArray⟩) := hide ⟨by rw [ext_take, hnm], by rw [ext_drop, hvt]⟩
                  obtain ⟨m, hm⟩ : ∃ m, m = j + 1 := ⟨_, rfl⟩
                  have HV : Hid (∀ W, Calls Tryz.prog 42 #[.string ((⟨p.toArray⟩ : ByteArray).extract 0 j), .string ((⟨p.toArray⟩ : ByteArray).extract m p.length)] W (RnPost W (valN nm vt))) := hide (fun W => by rw [hm, (unhide HX).1, (unhide HX).2]; exact rvalue_any nm vt W (by rw [hvt]; simp; omega))
                  rw [← hnm, ← hvt] at HP
                  clear hnm hvt
                  have HON := hide (fun f => valN_name (nm := nm) (v := vt) (f := f))
                  obtain ⟨o, ho⟩ : ∃ o, o = valN nm vt := ⟨_, rfl⟩
                  rw [← ho] at HP HV HON
                  clear hnb ho h61 h61p HD HX HNO
                  have jc3 : (0 : Int) ≤ (m : Int) := by omega
                  have jc4 : (m : Int) ≤ p.length := by omega
                  have jw : IntKind.i64.wrap ((j : Int) + 1) = (m : Int) := by rw [IntKind.wrap_i64]; omega
                  clear hm
                  go_upto_region 16 with (go_at_call 18; refine (unhide HN _).mono ?_; rintro e w' ⟨rfl, rfl⟩)
                  have hgl : g < wr.heap.size := World.block_lt_of_cell? wr ⟨g, k, none⟩ hc
                  have R0 : Hid (Below wr.heap.size wr wr.drew) := hide (Below.refl _ _).drew
                  have RA : Hid (Below wr.heap.size wr (wr.alloc (.cells (fv fld0) 33)).drew) := hide (((Below.refl _ _).alloc (Nat.le_refl _) _).drew)
                  have SV : Hid (∀ V, Below wr.heap.size wr V → V.cell? ⟨g, k, none⟩ = some (sv p)) := hide (fun V hV => (hV.cell (p := ⟨g, k, none⟩) hgl).trans hc)
                  have SD := hide (unhide SV _ (unhide R0))
                  have SA := hide (unhide SV _ (unhide RA))
                  have C0 := hide (unhide HV wr.drew)
                  have CA := hide (unhide HV (wr.alloc (.cells (fv fld0) 33)).drew)
                  have FA : Hid (FBox (wr.alloc (.cells (fv fld0) 33)).drew wr.heap.size fld0) := hide (FBox.new wr fld0)
                  go_cut [9, 10] from 15 to 85 (fun t9 t10 wx => VlR wr o t9 t10 wx)
                  case first =>
                    clear hpn hpm ht htl hk16 hSk hRk hk hlc hlt hjl hj hnl HP HST HK HPL HPN HLV HFV hi1 hj1 hj2 d16 jeq n61 hB htn hte2 HV
                    go_region_held3 (fun w' => w'.cell? ⟨g, k, none⟩ = some (sv p))
                      (first | with_reducible exact hc | with_reducible exact unhide SD | with_reducible exact unhide SA | with_reducible exact unhide S1 | with_reducible exact keep1 (unhide S1) | with_reducible exact keep1S (by simp <;> omega) (unhide S1) | with_reducible exact keep1 (by assumption) | with_reducible exact keep1S (by simp <;> omega) (by assumption))
                      ((go_at_call 42; (first
                        | ((with_reducible refine (unhide C0).mono ?_); rintro e w6 ⟨⟨an, ak, ai, az⟩, rfl, hf, b6⟩; have HF := hide hf; have B6 := hide ((unhide R0).trans (b6.mono (unhide R0).size)); have S1 := hide (unhide SV w6 (unhide B6)); have z6 : wr.heap.size ≤ w6.heap.size := (unhide B6).size; clear hf b6)
                        | ((with_reducible refine (unhide CA).mono ?_); rintro e w6 ⟨⟨an, ak, ai, az⟩, rfl, hf, b6⟩; have HF := hide hf; have F6 := hide ((unhide FA).below b6 (Nat.le_refl _)); have B6 := hide ((unhide RA).trans (b6.mono (unhide RA).size)); have S1 := hide (unhide SV w6 (unhide B6)); have z6 : wr.heap.size ≤ w6.heap.size := (unhide B6).size; obtain ⟨m0, m1, m2, m3, m4⟩ := (unhide F6).cells; clear hf b6))))
                    · rename_i hh
                      clear hh z6 hgl
                      go_wp2
                      go_meet
                      exact VlR.new (f := ⟨an, ak, ai, az⟩) (unhide B6) (unhide HF)
                    · rename_i hh
                      clear hh z6 hgl m0 m1 m2 m3 m4
                      go_wp2
                      go_meet
                      exact VlR.put (f := ⟨an, ak, ai, az⟩) (unhide B6) (Nat.le_refl _) (unhide F6) (unhide HF)
                  case rest =>
                    obtain ⟨q, f, rfl, rfl, hfb, hfg, hbel⟩ := hcut
                    have HSc := hide ((unhide HS).grown hbel)
                    have HFB := hide hfb
                    have hk15 : k < 16 := by have := of_decide_eq_false d16; omega
                    clear hfb hbel C0 CA R0 RA SV SD SA FA hgl HN HV HS hc
                    cases o with
                    | none =>
                      have HE : Hid (all = .error 122) := hide (by rw [unhide HK]; exact fold_err (unhide HST _ (unhide HP)))
                      have BE := hide (unhide HSc).bel
                      clear HK HST HP HSc HON hfg
                      go_wp2_with fail
                      go_ret2
                      rw [unhide HE]
                      exact ⟨rfl, unhide BE⟩
                    | some f1 =>
                      obtain rfl := hfg f1 rfl
                      have hfn := unhide HON f rfl
                      obtain ⟨fn, ft, fi, fz⟩ := f
                      simp only at hfn
                      subst hfn
                      clear HON hfg
                      obtain ⟨x0, x1, x2, x3, xf⟩ := (unhide HFB).cells
                      simp only at x0 x1 x2 x3
                      have HFD : Hid (FdN wc va vc R) := hide (by obtain ⟨a', c', e, h⟩ := (unhide HSc).own.fdn; cases e; exact h)
                      have HFind : Hid (Calls Tryz.prog 43 #[.slice va R.length vc, sv fn] wc fun e w' => e = .returned (.int .i64 (findA R fn)) ∧ wc = w') := hide (rfind_any va R.length vc R fn wc (unhide HFD).1)
                      obtain ⟨RL, hRL⟩ : ∃ RL, RL = R.length := ⟨_, rfl⟩
                      cases hhas : hasF R fn with
                      | true =>
                        have HE : Hid (all = .error 124) := hide (by
                          rw [unhide HK]
                          refine fold_err ((unhide HST _ (unhide HP)).trans ?_)
                          simp only
                          rw [if_pos (by rw [← rec_has (unhide HSc).rcd fn]; exact hhas)])
                        have BE := hide (unhide HSc).bel
                        obtain ⟨z, hz⟩ : ∃ z, z = findA R fn := ⟨_, rfl⟩
                        have hz0 : decide ((0 : Int) ≤ z) = true := decide_eq_true (by rw [hz]; exact find_pos hhas)
                        rw [← hz, ← hRL] at HFind
                        rw [← hRL]
                        clear HK HST HP HSc HFD hhas hz hRL
                        go_wp2_with (go_at_call 43; refine (unhide HFind).mono ?_; rintro e w' ⟨rfl, rfl⟩)
                        go_ret2
                        rw [unhide HE]
                        exact ⟨rfl, unhide BE⟩
                      | false =>
                        rw [find_neg hhas] at HFind
                        have HSet : Hid (Calls Tryz.prog 23 #[.slice va R.length vc, .agg (fv ⟨fn, ft, fi, fz⟩)] wc fun e w' => ∃ v, e = .returned v ∧ FOwn w' wc.heap.size v (setF R ⟨fn, ft, fi, fz⟩) ∧ Below wc.heap.size wc w') := hide (rSet_any va vc R ⟨fn, ft, fi, fz⟩ wc (unhide HFD) (by omega))
                        have HNX : Hid (∀ v W, FOwn W wc.heap.size v (setF R ⟨fn, ft, fi, fz⟩) → Below wc.heap.size wc W → RsSt w W all parts (.slice (some ⟨g, 0, none⟩) PN lc) v (k + 1) (S ++ [⟨fn, ft, fi, fz⟩]) (setF R ⟨fn, ft, fi, fz⟩)) := hide (fun v W hv hb => by
                          have h := unhide HSc
                          refine ⟨h.bel.trans (hb.mono h.bel.size), h.row.below hb (Nat.le_refl _), hv.mono h.bel.size, rec_set h.rcd _ hhas, ⟨by simp; omega, by have := set_len R ⟨fn, ft, fi, fz⟩; omega, by omega⟩, ?_⟩
                          rw [unhide HK]
                          refine fold_ok ((unhide HST _ (unhide HP)).trans ?_)
                          simp only
                          rw [if_neg (by rw [← rec_has h.rcd fn, hhas]; decide)])
                        rw [← hRL] at HFind HSet ⊢
                        clear HK HST HP HSc HFD hhas hRL
                        go_wp2_with (first | (go_at_call 43; refine (unhide HFind).mono ?_; rintro e w' ⟨rfl, rfl⟩) | (go_at_call 23; refine (unhide HSet).mono ?_; rintro e w7 ⟨v7, rfl, own7, b7⟩; have H7 := hide (unhide HNX v7 w7 own7 b7); clear own7 b7))
                        go_roundw
                        case rel => exact ⟨k + 1, _, _, by go_num, by omega, H7⟩
                        case measure => simp [intOf]; omega
              · have n61 : ((d.toNat : Int) != 61) = true := by
                  rw [bne_iff_ne]
                  intro e
                  exact h61 (UInt8.toNat_inj.1 (by show d.toNat = 61; omega))
                have HNO' : Hid (∀ c ∈ p.take (j + 1), c ≠ 61) := hide (fun c hcc => by
                  rw [List.take_add_one, unhide HD] at hcc
                  rcases List.mem_append.1 hcc with hcc | hcc
                  · exact unhide HNO c hcc
                  · rw [show c = d by simpa using hcc]; exact h61)
                clear h61
                go_wp2_with fail
                go_roundw
                case rel => exact ⟨j + 1, by go_num, by omega, HNO', hide trivial⟩
                case measure => simp [intOf]; omega
            · have hjn : decide ((j : Int) < (p.length : Int)) = false := decide_eq_false (by omega)
              have hje : j = p.length := by omega
              have HE : Hid (all = .error 121) := hide (by rw [unhide HK]; exact fold_err (unhide HST _ (readP_no (by have := unhide HNO; rwa [hje, List.take_length] at this))))
              have BE := hide (unhide HS).bel
              obtain ⟨nb, hnb⟩ : ∃ nb, nb = nameB (p.take j) := ⟨_, rfl⟩
              have HN : Hid (∀ W, Calls Tryz.prog 18 #[.string ((⟨p.toArray⟩ : ByteArray).extract 0 j)] W fun e w' => e = .returned (.bool nb) ∧ W = w') := hide (fun W => by rw [ext_take, hnb]; exact rName_any _ W (by simp; omega))
              have jc1 : (0 : Int) ≤ j := by omega
              have jc2 : (j : Int) ≤ p.length := by omega
              have jeq : ((j : Int) == (p.length : Int)) = true := by rw [hje]; simp
              clear HK HNO HST hnb HS hje
              cases nb with
              | false =>
                go_wp2_with (go_at_call 18; refine (unhide HN _).mono ?_; rintro e w' ⟨rfl, rfl⟩)
                go_ret2
                rw [unhide HE]
                exact ⟨rfl, unhide BE⟩
              | true =>
                go_wp2_with (go_at_call 18; refine (unhide HN _).mono ?_; rintro e w' ⟨rfl, rfl⟩)
                go_ret2
                rw [unhide HE]
                exact ⟨rfl, unhide BE⟩
      · have hi1 : decide ((k : Int) < (PN : Int)) = false := decide_eq_false (by omega)
        have HE : Hid (all = .ok S) := hide (by rw [(unhide HS).eq, List.drop_of_length_le (by rw [← unhide HPN]; omega)]; rfl)
        go_wp2_with fail
        go_ret2
        rw [unhide HE]
        exact ⟨_, R, rfl, (unhide HS).own, (unhide HS).rcd, by omega, (unhide HS).bel⟩
end Go.Proofs.YtkgepklmhdjjnaaGreatDoor
