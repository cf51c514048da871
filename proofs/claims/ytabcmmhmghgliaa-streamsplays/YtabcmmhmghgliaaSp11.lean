/-
  DERIVED. The walk of the document's Add, where it goes well.
-/
import Derived.Test.YtabcmmhmghgliaaSp10
import Derived.Deep.RegionLaw
namespace Go.Proofs.Ytabcmmhmghgliaa
open Go.RowKit
set_option linter.unusedVariables false

/-- Behind an Add that went well: the batch stands behind the others; of the elder blocks only the index's own two have turned. -/
def AddPost (w : World) (G : Nat → Prop) (rb base : Nat) (Bs : List Bat) (b : Bat) (e : Ending) (w' : World) : Prop :=
  e = .returned (.int .i64 0) ∧ RIn w' G rb base (Bs ++ [b]) ∧ w.heap.size ≤ w'.heap.size ∧ (w'.os = w.os ∧ w'.tape = w.tape ∧ w'.output = w.output) ∧ ∃ own, (∀ v, w.heap[rb]? = some (.cells #[v] 29 (0, 0)) → v.ownBlock = own) ∧ (∀ g, g < w.heap.size → g ≠ rb → some g ≠ own → w'.heap[g]? = w.heap[g]?) ∧ ∀ v, w'.heap[rb]? = some (.cells #[v] 29 (0, 0)) → ∀ q, v.ownBlock = some q → own = some q ∨ w.heap.size ≤ q

theorem RRow.below {w w' : World} {B base : Nat} {v : Value} {rs : List BtR} (h : RRow w base v rs) (hb : Below B w w') (hB : w.heap.size ≤ B) : RRow w' base v rs := by
  obtain ⟨h1, h2⟩ := h
  refine ⟨h1, ?_⟩
  rcases h2 with h | ⟨g, cap, cur, a, b, c, r⟩
  · exact .inl h
  · exact .inr ⟨g, cap, cur, a, b, (hb.block g (by have := lt_of_block c; omega)).trans c, r⟩

theorem RRow.ne {w : World} {base rb : Nat} {v x : Value} {rs : List BtR} (h : RRow w base v rs) (hx : w.heap[rb]? = some (.cells #[x] 29 (0, 0))) : v.ownBlock ≠ some rb := fun he => by
  rcases h.2 with ⟨rfl, _⟩ | ⟨g, cap, cur, rfl, _, hg, _⟩
  · cases he
  · simp only [Value.ownBlock, Option.some.injEq] at he
    subst he
    rw [hx] at hg
    exact absurd hg (by simp)
theorem add_close {w w5 w6 : World} {G : Nat → Prop} {rb base ec : Nat} {Bs : List Bat} {b : Bat} {v v6 : Value} {rs : List BtR} {ea : Option Addr} (hrb : w.heap[rb]? = some (.cells #[v] 29 (0, 0))) (hrow : RRow w base v rs) (hbs : rs.map (·.b) = Bs) (hg1 : ¬ G rb) (hg2 : ∀ q, v.ownBlock = some q → ¬ G q) (hes : ∀ r ∈ rs, FarE G w r.a r.b.es.length r.c r.b.es) (hev : FarE G w ea b.es.length ec b.es) (hG : ∀ q, G q → q < w.heap.size) (hGm : ∀ q, G q → q < base ∨ ∃ cur, w.heap[q]? = some (.cells cur 49 (0, 0)))
    (h5 : Below w.heap.size w w5) (hbase : base ≤ w.heap.size) (r6 : RRow w6 base v6 (rs ++ [⟨b, ea, ec⟩])) (g6 : w5.grownBy w6 v.ownBlock) (l6 : ∀ q, v6.ownBlock = some q → v.ownBlock = some q ∨ w5.heap.size ≤ q) : AddPost w G rb base Bs b (.returned (.int .i64 0)) (w6.setCell ⟨rb, 0, none⟩ v6) := by
  have hne := hrow.ne hrb
  have hlr := lt_of_block hrb
  have hown : ∀ g, v.ownBlock = some g → base ≤ g ∧ g < w.heap.size := fun g hg => by
    rcases hrow.2 with ⟨rfl, _⟩ | ⟨g', cap, cur, rfl, hb, hg', _⟩
    · cases hg
    · simp only [Value.ownBlock, Option.some.injEq] at hg
      subst hg
      exact ⟨hb, lt_of_block hg'⟩
  have hk : ∀ g, g < w.heap.size → some g ≠ v.ownBlock → w6.heap[g]? = w.heap[g]? := fun g hg hn => (g6.block g (Nat.lt_of_lt_of_le hg h5.size) (fun q => hn q)).trans (h5.block g hg)
  have hz6 : w.heap.size ≤ w6.heap.size := Nat.le_trans h5.size g6.size
  have h6 := hk rb hlr (fun q => hne q.symm)
  rw [hrb] at h6
  have hn6 := r6.ne h6
  have hrb7 : (w6.setCell ⟨rb, 0, none⟩ v6).heap[rb]? = some (.cells #[v6] 29 (0, 0)) := by rw [heap_setCell_same w6 rb 0 _ _ _ h6]; rfl
  have hoth : ∀ g, g ≠ rb → (w6.setCell ⟨rb, 0, none⟩ v6).heap[g]? = w6.heap[g]? := fun g hg => heap_setCell_other _ ⟨rb, 0, none⟩ _ _ hg
  have hkG : ∀ q, G q → (w6.setCell ⟨rb, 0, none⟩ v6).heap[q]? = w.heap[q]? := fun q hq => (hoth q (fun e => hg1 (e ▸ hq))).trans (hk q (hG q hq) (fun e => hg2 q e.symm hq))
  have hz7 : w.heap.size ≤ (w6.setCell ⟨rb, 0, none⟩ v6).heap.size := by rw [World.size_setCell]; exact hz6
  have h5o := h5.os
  have h5t := h5.tape
  have h5p := h5.output
  refine ⟨rfl, ⟨v6, rs ++ [⟨b, ea, ec⟩], hrb7, ?_, by rw [List.map_append, hbs]; rfl, hg1, fun q hq => ?_, fun r hr => ?_⟩, hz7, ⟨g6.os.trans h5o, g6.tape.trans h5t, g6.output.trans h5p⟩, v.ownBlock, fun u hu => ?_, fun g hg h1 h2 => (hoth g h1).trans (hk g hg h2), fun u hu q hq => ?_⟩
  · obtain ⟨q1, q2⟩ := r6
    refine ⟨q1, ?_⟩
    rcases q2 with q | ⟨g, cap, cur, a, bb, c, r⟩
    · exact .inl q
    · refine .inr ⟨g, cap, cur, a, bb, (hoth g (fun e => hn6 (by rw [a, e]; rfl))).trans c, r⟩
  · rcases r6.2 with ⟨e, _⟩ | ⟨g, cap, cur, e, hb, hg, _⟩
    · rw [e] at hq; cases hq
    · rw [e] at hq
      simp only [Value.ownBlock, Option.some.injEq] at hq
      subst hq
      intro hGg
      rcases hGm g hGg with h | ⟨cur', h⟩
      · omega
      · have := hk g (hG g hGg) (fun q => hg2 g q.symm hGg)
        rw [hg, h] at this
        exact absurd this (by simp)
  · rcases List.mem_append.1 hr with hr | hr
    · exact (hes r hr).on hz7 hkG
    · rw [List.mem_singleton.1 hr]; exact hev.on hz7 hkG
  · rw [hrb] at hu
    have := congrArg (fun o => match o with | some (Obj.cells cs _ _) => cs[0]? | _ => none) hu
    simp at this
    rw [this]
  · have e : v6 = u := by rw [hrb7] at hu; simpa using hu
    subst e
    have hs5 := h5.size
    exact (l6 q hq).imp (fun h => h) (fun h => by omega)

set_option maxRecDepth 20000 in
set_option maxHeartbeats 8000000 in
theorem rAdd_ok (rb base : Nat) (Bs : List Bat) (s k : List UInt8) (f : Nat) (ea : Option Addr) (n ec : Nat) (es : List Evn) (w : World) (G : Nat → Prop) (hG : ∀ q, G q → q < w.heap.size) (hGm : ∀ q, G q → q < base ∨ ∃ cur, w.heap[q]? = some (.cells cur 49 (0, 0))) (hin : RIn w G rb base Bs) (hbase : base ≤ w.heap.size) (hfar : FarE G w ea n ec es) (hok : BsOk Bs) (hs : s.length ≤ 9223372036854775807) (hk : k.length ≤ 9223372036854775807) (hv : EvL w (.slice ea n ec) es) (hfit : ∀ e ∈ es, fitE e) (hgood : chkA (ixD Bs) s k (f : Int) es = 0) :
    Calls Try.prog 20 #[.pointer (some ⟨rb, 0, none⟩), .agg (bt s k (f : Int) ea n ec)] w (AddPost w G rb base Bs ⟨s, k, f, es⟩) := by
  have h := hin.rd
  obtain ⟨wa, hwa⟩ : ∃ wa, wa = w.alloc (.cells (bt s k (f : Int) ea n ec) 33) := ⟨_, rfl⟩
  have ba : Below w.heap.size w wa := by rw [hwa]; exact (Below.refl _ _).alloc (Nat.le_refl _) _
  have hx : wa.heap[w.heap.size]? = some (.cells (bt s k (f : Int) ea n ec) 33 (0, 0)) := by rw [hwa]; exact heap_alloc_self _ _
  have HBx : Hid (∀ W, Below wa.heap.size wa W → W.cell? ⟨w.heap.size, 0, none⟩ = some (sv s) ∧ W.cell? ⟨w.heap.size, 1, none⟩ = some (sv k) ∧ W.cell? ⟨w.heap.size, 2, none⟩ = some (.int .i64 (f : Int)) ∧ W.cell? ⟨w.heap.size, 3, none⟩ = some (.slice ea n ec)) := hide (fun W hW => ⟨keptQ hW ((cell_of_row _ _ _ _ _ _ hx).trans rfl), keptQ hW ((cell_of_row _ _ _ _ _ _ hx).trans rfl), keptQ hW ((cell_of_row _ _ _ _ _ _ hx).trans rfl), keptQ hW ((cell_of_row _ _ _ _ _ _ hx).trans rfl)⟩)
  have HE : Hid (∀ W, Below wa.heap.size wa W → Below w.heap.size w W) := hide (fun W hW => ba.trans (hW.mono ba.size))
  have HRd := hide (h.grown ba)
  have HEv := hide (hv.below ba (Nat.le_refl _))
  have HOk := hide hok
  have HFit := hide hfit
  have CN := hide (snamed_any s k wa hs hk)
  have CK := hide (rKeyed_go rb Bs k wa (h.grown ba) hok hk)
  have HWa := hide hwa
  have HB0 : Hid (Below wa.heap.size wa wa) := hide (Below.refl _ _)
  have hnm : okNames s k := Classical.byContradiction fun q => by rw [chk1 q] at hgood; cases hgood
  have hkn : keyD k 0 Bs = none := by
    cases hD : keyD k 0 Bs with
    | none => rfl
    | some d => rw [chk2 hnm (by show (keyD k 0 Bs).isSome = true; rw [hD]; rfl)] at hgood; cases hgood
  have hki : ¬ ((ixD Bs).key k).isSome = true := by show ¬ (keyD k 0 Bs).isSome = true; rw [hkn]; simp
  have hev : okEvs es := Classical.byContradiction fun q => by rw [chk3 hnm hki q] at hgood; cases hgood
  have hf : (f : Int) = ((ixD Bs).ver s : Int) := Classical.byContradiction fun q => by rw [chk4 hnm hki hev q] at hgood; cases hgood
  have HIn := hide hin
  have HEv0 := hide hfar
  have HG := hide hG
  have HGm := hide hGm
  have HBs := hide hbase
  rw [ans_true hnm] at CN
  rw [hkn] at CK
  simp only [kdS, kdF, Option.isSome_none] at CK
  have HEs := hide hev
  have HV : Hid (f = (ofD s (numL (entD Bs))).length) := hide (by rw [ofD_len]; have : f = (ixD Bs).ver s := (by omega); exact this.trans (by unfold Ix.ver; rw [plc_verL]; rfl))
  have hn : n = es.length := by obtain ⟨_, _, e, _⟩ := hv; cases e; rfl
  have HN := hide hn
  obtain ⟨B0, hB0⟩ : ∃ B0, B0 = w.heap.size := ⟨_, rfl⟩
  have HB00 := hide hB0
  rw [← hB0] at HBx
  have HX0 := hide hx
  rw [← hB0] at HX0
  clear h hin hfar hG hGm hok hv hfit hx hwa hB0 hnm hkn hki hev hf hn hgood hbase
  obtain ⟨x0, x1, x2, x3⟩ := unhide HBx wa (unhide HB0)
  go_enter Try.func20, Try.ntmps20
  go_upto_region 1 with fail
  rw [show w.alloc (.cells #[Value.string ⟨s.toArray⟩, .string ⟨k.toArray⟩, .int .i64 (f : Int), .slice ea n ec] 33) = wa from (unhide HWa).symm]
  rw [← unhide HB00]
  go_upto_region 2 with (go_at_call 41; refine (unhide CN).mono ?_; rintro e w5 ⟨rfl, rfl⟩)
  go_upto_region 3 with (go_at_call 32; refine (unhide CK).mono ?_; rintro e w2 ⟨rfl, b2⟩; have HB2 := hide b2; clear b2)
  have b3 : Below w2.heap.size w2 (w2.alloc (.cells (apV 0 0 0 false) 44)) := (Below.refl _ _).alloc (Nat.le_refl _) _
  obtain ⟨w3, hw3⟩ : ∃ w3, w3 = w2.alloc (.cells (apV 0 0 0 false) 44) := ⟨_, rfl⟩
  rw [show w2.alloc (.cells #[Value.int .i64 0, .int .i64 0, .int .i64 0, .bool false] 44) = w3 from hw3.symm]
  rw [← hw3] at b3
  have HB3 := hide ((unhide HB2).trans (b3.mono (unhide HB2).size))
  have CR := hide (rright_go ea n ec es w3 ((unhide HEv).below (unhide HB3) (Nat.le_refl _)) (unhide HFit))
  rw [ans_true (unhide HEs)] at CR
  clear hw3 b3 CK CN x0 x1 x2 x3
  obtain ⟨x0, x1, x2, x3⟩ := unhide HBx w3 (unhide HB3)
  go_upto_region 4 with (go_at_call 42; refine (unhide CR).mono ?_; rintro e w4 ⟨rfl, b4⟩; have HB4 := hide ((unhide HB3).trans (b4.mono (unhide HB3).size)); clear b4)
  clear CR x0 x1 x2 x3
  have HE4 := hide (unhide HE w4 (unhide HB4))
  have HSV : Hid (∀ W, Below w4.heap.size w4 W → W.cell? ⟨B0, 0, none⟩ = some (sv s) ∧ W.cell? ⟨B0, 2, none⟩ = some (.int .i64 (f : Int))) := hide (fun W hW => by
    obtain ⟨q0, q1, q2, q3⟩ := unhide HBx W ((unhide HB4).trans (hW.mono (unhide HB4).size))
    exact ⟨q0, q2⟩)
  have bD : Below w4.heap.size w4 w4.drew := (Below.refl _ _).drew
  have S0 := hide (unhide HSV _ (Below.refl _ _))
  have SD := hide (unhide HSV _ bD)
  have CO := hide (rOf_go rb Bs s w4.drew ((unhide HRd).grown ((unhide HB4).trans (bD.mono (unhide HB4).size))) (unhide HOk) hs)
  have BD := hide bD
  clear bD
  go_upto_region 10 with fail
  go_region_held3 (fun W => W.cell? ⟨B0, 0, none⟩ = some (sv s) ∧ W.cell? ⟨B0, 2, none⟩ = some (.int .i64 (f : Int)))
    (first | with_reducible exact unhide S0 | with_reducible exact unhide SD | with_reducible exact unhide S7)
    ((go_at_call 23; refine (unhide CO).mono ?_; rintro e w5 ⟨v5, rfl, u5, o5, b5, b45⟩; obtain ⟨oa, oc, he5⟩ := o5.sl; rw [← unhide HV] at he5; subst he5; have HB5 := hide ((unhide BD).trans (b45.mono (unhide BD).size)); have S7 := hide (unhide HSV _ (unhide HB5)); clear o5 b5 b45))
  obtain ⟨v, rs, hrb, hrow, hbs, hg1, hg2, hes⟩ := unhide HIn
  have HG1 := hide hg1
  have HG2 := hide hg2
  have b05 : Below w.heap.size w w5 := (unhide HE4).trans ((unhide HB5).mono (unhide HE4).size)
  have hrb5 : w5.heap[rb]? = some (.cells #[v] 29 (0, 0)) := (b05.block rb (lt_of_block hrb)).trans hrb
  have z0 : w5.cell? ⟨rb, 0, none⟩ = some v := (cell_of_row _ _ _ _ _ _ hrb5).trans rfl
  obtain ⟨x0, x1, x2, x3⟩ := unhide HBx w5 ((unhide HB4).trans ((unhide HB5).mono (unhide HB4).size))
  have bA : Below w5.heap.size w5 (w5.alloc (.cells (bt s k (f : Int) ea n ec) 33)).drew := ((Below.refl _ _).alloc (Nat.le_refl _) _).drew
  have HXA : Hid ((w5.alloc (.cells (bt s k (f : Int) ea n ec) 33)).drew.heap[w5.heap.size]? = some (.cells (bt s k (f : Int) ea n ec) 33 (0, 0))) := hide (heap_alloc_self _ _)
  have HBA := hide bA
  have HRA : Hid (RRow (w5.alloc (.cells (bt s k (f : Int) ea n ec) 33)).drew base v rs) := hide ((hrow.below b05 (Nat.le_refl _)).below bA (Nat.le_refl _))
  have HVs : Hid (∃ a n c, v = .slice a n c) := hide (by
    rcases hrow.2 with ⟨e, _⟩ | ⟨g, cap, cur, e, _⟩
    · exact ⟨_, _, _, e⟩
    · exact ⟨_, _, _, e⟩)
  have HRb := hide hrb
  have HRb5 := hide hrb5
  have HRow := hide hrow
  have HBsE := hide hbs
  have HEsR := hide hes
  have H05 := hide b05
  clear hrb hrb5 hrow hbs hes hg1 hg2 b05 bA S0 SD S7
  obtain ⟨va, vn, vc, hv⟩ := unhide HVs
  subst hv
  have HLn : Hid (rs.length ≤ 1000) := hide (by have := (unhide HOk).n; rw [← unhide HBsE, List.length_map] at this; exact this)
  have HZ6 : Hid (∀ w6 : World, (w5.alloc (.cells (bt s k (f : Int) ea n ec) 33)).drew.grownBy w6 (Value.slice va vn vc).ownBlock → w6.cell? ⟨rb, 0, none⟩ = some (.slice va vn vc) ∧ ∀ i, w6.frozen? ⟨rb, i, none⟩ = false) := hide (fun w6 g6 => by
    have hne := (unhide HRow).ne (unhide HRb)
    have h6 : w6.heap[rb]? = some (.cells #[.slice va vn vc] 29 (0, 0)) := (g6.block rb (Nat.lt_of_lt_of_le (lt_of_block (unhide HRb5)) (unhide HBA).size) (fun q => hne q.symm)).trans (((unhide HBA).block rb (lt_of_block (unhide HRb5))).trans (unhide HRb5))
    exact ⟨(cell_of_row _ _ _ _ _ _ h6).trans rfl, fun i => by simp [World.frozen?, h6]⟩)
  have zA : (w5.alloc (.cells (bt s k (f : Int) ea n ec) 33)).drew.cell? ⟨rb, 0, none⟩ = some (.slice va vn vc) := (cell_of_row _ _ _ _ _ _ (((unhide HBA).block rb (lt_of_block (unhide HRb5))).trans (unhide HRb5))).trans rfl
  go_upto_region 12 with fail
  go_region_law (refine step_append_bt rfl (.tmp 47) (.tmp 49) rfl base _ rs rfl (unhide HRA) w5.heap.size ⟨⟨s, k, f, es⟩, ea, ec⟩ rfl (by rw [← unhide HN]; exact unhide HXA) (by have := unhide HLn; omega) (Nat.le_trans (unhide HBs) (Nat.le_trans (unhide H05).size (unhide HBA).size)) ?_; intro v6 w6 r6 hs6 g6 l6; have L6 := hide l6; obtain ⟨ga, gc, rfl⟩ := hs6; have z6 : w6.cell? ⟨rb, 0, none⟩ = some (.slice va vn vc) := (unhide HZ6) w6 g6 |>.1; have zf := (unhide HZ6) w6 g6 |>.2; have R6 := hide r6; have G6 := hide g6; clear r6 g6 l6)
  all_goals
    go_wp2
    go_ret
    exact add_close (unhide HRb) (unhide HRow) (unhide HBsE) (unhide HG1) (unhide HG2) (unhide HEsR) (by rw [← unhide HN]; exact unhide HEv0) (unhide HG) (unhide HGm) ((unhide H05).trans ((unhide HBA).mono (unhide H05).size)) (unhide HBs) (unhide R6) (unhide G6) (unhide L6)
end Go.Proofs.Ytabcmmhmghgliaa
