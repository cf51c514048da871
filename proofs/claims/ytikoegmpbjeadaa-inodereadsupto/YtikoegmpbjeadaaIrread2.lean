/-
  DERIVED. The document's Read.
-/
import Derived.Test.YtikoegmpbjeadaaIrread
import Derived.Deep.Cut
import Derived.Deep.CutRange
namespace Go.Proofs.Ytikoegmpbjeadaa
open Go.RowKit
set_option linter.unusedVariables false

def RReadPost (w : World) (l : List UInt8) (e : Ending) (w' : World) : Prop :=
  w.grownBy w' none ∧ ((rdN l = none ∧ e = .returned (.tuple #[.pointer none, .int .i64 0, .int .i64 61])) ∨ ∃ a L n b v, rdN l = some (a, L, n) ∧ e = .returned (.tuple #[.pointer (some ⟨b, 0, none⟩), .int .i64 (n : Int), .int .i64 0]) ∧ w.heap.size ≤ b ∧ RdAt w' b a v L)

/-- Where the loop of Read stands: m pairs were asked for of the bytes r. -/
def LSt (w W : World) (cb m i : Nat) (r : List UInt8) (x : Value) : Prop :=
  ∃ (X : List (Nat × Nat)) (v : Value) (bad : Bool) (rest : List UInt8), i ≤ m ∧ X.length = i ∧ ROwn W w.heap.size x X ∧ CuAt w W cb v bad rest ∧
    (if bad then nums (2 * m) r = none else (∀ y ∈ X, y.1 ≤ 32768 ∧ y.2 ≤ 32768) ∧ nums (2 * m) r = (nums (2 * (m - i)) rest).map (fun p => (flatX X ++ p.1, p.2)))

theorem flatX_snoc (X : List (Nat × Nat)) (x : Nat × Nat) : flatX (X ++ [x]) = flatX X ++ [x.1, x.2] := by simp [flatX]
theorem nums_two (k : Nat) (l : List UInt8) : nums (k + 2) l = if (rd l).2.2 = 0 ∧ (rd l).1 ≤ 32768 then (if (rd (l.drop (rd l).2.1)).2.2 = 0 ∧ (rd (l.drop (rd l).2.1)).1 ≤ 32768 then (nums k ((l.drop (rd l).2.1).drop (rd (l.drop (rd l).2.1)).2.1)).map (fun p => ((rd l).1 :: (rd (l.drop (rd l).2.1)).1 :: p.1, p.2)) else none) else none := by
  rw [nums]
  by_cases h : (rd l).2.2 = 0 ∧ (rd l).1 ≤ 32768
  · rw [if_pos h, if_pos h, nums]
    by_cases h2 : (rd (l.drop (rd l).2.1)).2.2 = 0 ∧ (rd (l.drop (rd l).2.1)).1 ≤ 32768
    · rw [if_pos h2, if_pos h2, Option.map_map]
      rfl
    · rw [if_neg h2, if_neg h2]
      rfl
  · rw [if_neg h, if_neg h]

theorem CuAt.step {w0 w w' : World} {b : Nat} {v x : Value} {bad : Bool} {l : List UInt8} {X : List (Nat × Nat)} (h : CuAt w0 w b v bad l) (hx : ROwn w w0.heap.size x X) (hg : w.grownBy w' x.ownBlock) : CuAt w0 w' b v bad l :=
  ⟨(hg.block b h.lt (fun e => hx.ne e.symm h.blk (by decide) rfl)).trans h.blk, h.sl, h.new, own_step' h.grown hx hg⟩
theorem LSt.bad {w W : World} {cb m i : Nat} {r : List UInt8} {x v : Value} {X : List (Nat × Nat)} {rest : List UInt8} (hi : i ≤ m) (hX : X.length = i) (hR : ROwn W w.heap.size x X) (hC : CuAt w W cb v true rest) (h : nums (2 * m) r = none) : LSt w W cb m i r x := ⟨X, v, true, rest, hi, hX, hR, hC, by rw [if_pos rfl]; exact h⟩
theorem LSt.good {w W : World} {cb m i : Nat} {r : List UInt8} {x v : Value} {X : List (Nat × Nat)} {rest : List UInt8} (hi : i ≤ m) (hX : X.length = i) (hR : ROwn W w.heap.size x X) (hC : CuAt w W cb v false rest) (h : ∀ y ∈ X, y.1 ≤ 32768 ∧ y.2 ≤ 32768) (h2 : nums (2 * m) r = (nums (2 * (m - i)) rest).map (fun p => (flatX X ++ p.1, p.2))) : LSt w W cb m i r x := ⟨X, v, false, rest, hi, hX, hR, hC, by rw [if_neg (by simp)]; exact ⟨h, h2⟩⟩

set_option maxRecDepth 20000 in
set_option maxHeartbeats 8000000 in
theorem rRead_any (w : World) (v : Value) (l : List UInt8) (hv : Sl w v l) : Calls Try.prog 16 #[v] w (RReadPost w l) := by
  have HV := hide hv
  obtain ⟨ao, cap, hve, hvl, hvc, hv4⟩ := hv
  unfold maxLen at hvc
  clear hv4
  have HC0 : Hid (CuAt w (w.alloc (.cells #[v, .bool false] 73)) w.heap.size v false l) := hide ⟨heap_alloc_new _ _, unhide HV, Nat.le_refl _, World.grownBy_alloc _ _ _⟩
  have HVe := hide hve
  have hllI : (l.length : Int) ≤ 9223372036854775807 := by omega
  subst hve
  go_enter Try.func16, Try.ntmps16
  go_wp2_with fail
  refine (rNumber_any w _ w.heap.size _ false l (unhide HC0)).mono ?_
  rintro e w1 ⟨g1, h1⟩
  obtain ⟨cb, hcb⟩ : ∃ cb, cb = w.heap.size := ⟨_, rfl⟩
  rw [← hcb] at g1 h1 ⊢
  have HCb : Hid (w.heap.size ≤ cb) := hide (by omega)
  clear hcb g1 HC0
  rcases h1 with ⟨e1, n1, rfl, v1, k1⟩ | ⟨no1, z1, hz1, rfl, k1⟩
  · -- the first is there
    have K1 := hide k1
    have E1 := hide (And.intro e1 n1)
    clear k1 e1
    obtain ⟨N1, hN1⟩ : ∃ N, N = (rd l).1 := ⟨_, rfl⟩
    obtain ⟨l1, hl1⟩ : ∃ l1, l1 = l.drop (rd l).2.1 := ⟨_, rfl⟩
    rw [← hl1] at K1
    rw [← hN1] at n1 ⊢
    have HN1 := hide hN1
    have HL1 := hide hl1
    have hN1I : (N1 : Int) ≤ 32768 := by omega
    clear hN1 hl1
    go_wp2_with fail
    refine (rNumber_any w w1 cb v1 false l1 (unhide K1)).mono ?_
    rintro e w2 ⟨g2, h2⟩
    clear g2 K1
    rcases h2 with ⟨e2, n2, rfl, v2, k2⟩ | ⟨no2, z2, hz2, rfl, k2⟩
    · have K2 := hide k2
      have E2 := hide (And.intro e2 n2)
      clear k2 e2
      obtain ⟨m, hm⟩ : ∃ m, m = (rd l1).1 := ⟨_, rfl⟩
      obtain ⟨l2, hl2⟩ : ∃ l2, l2 = l1.drop (rd l1).2.1 := ⟨_, rfl⟩
      rw [← hl2] at K2
      rw [← hm] at n2 ⊢
      have HMm := hide hm
      have HL2 := hide hl2
      have hmI : (m : Int) ≤ 32768 := by omega
      have H2 : Hid (nums 2 l = some ([N1, m], l2)) := hide (by
        have h1 := unhide E1
        have h2 := unhide E2
        rw [unhide HL1] at h2
        rw [nums_two 0 l, if_pos h1, if_pos h2, unhide HN1, unhide HMm, unhide HL2, unhide HL1]
        rfl)
      clear hm hl2 E1 E2
      go_wp2
      go_loopw [8, 9] (fun x i wr => ∃ k : Nat, i = .int .i64 (k : Int) ∧ LSt w wr cb m k l2 x) (fun _ i _ => m - (intOf i).toNat)
      case atStart => exact ⟨0, rfl, [], v2, false, l2, by omega, rfl, ROwn.nil _ _, unhide K2, by
        rw [if_neg (by simp)]
        refine ⟨(fun y hy => by cases hy), ?_⟩
        rw [Nat.sub_zero]
        cases nums (2 * m) l2 with
        | none => rfl
        | some p => simp [flatX]⟩
      case round =>
        obtain ⟨k, rfl, X, vk, bad, rest, hkm, hXl, hR, hC, hB⟩ := hrel
        have HR := hide hR
        have HC := hide hC
        have HBd := hide hB
        have HXl := hide hXl
        clear hR hC hB hXl K2
        have hkI : (k : Int) ≤ 32768 := by omega
        cases bad with
        | false =>
          by_cases hlt : k < m
          · have hlt' : (k : Int) < (m : Int) := by omega
            have c1 := (unhide HC).flag
            have HSt : Hid (nums (2 * (m - k)) rest = if (rd rest).2.2 = 0 ∧ (rd rest).1 ≤ 32768 then (if (rd (rest.drop (rd rest).2.1)).2.2 = 0 ∧ (rd (rest.drop (rd rest).2.1)).1 ≤ 32768 then (nums (2 * (m - (k + 1))) ((rest.drop (rd rest).2.1).drop (rd (rest.drop (rd rest).2.1)).2.1)).map (fun p => ((rd rest).1 :: (rd (rest.drop (rd rest).2.1)).1 :: p.1, p.2)) else none) else none) := hide (by
              rw [show 2 * (m - k) = 2 * (m - (k + 1)) + 2 by omega]
              exact nums_two _ _)
            have hXm : Hid (∀ y ∈ X, y.1 ≤ 32768 ∧ y.2 ≤ 32768) := hide (unhide HBd).1
            have hEq : Hid (nums (2 * m) l2 = (nums (2 * (m - k)) rest).map (fun p => (flatX X ++ p.1, p.2))) := hide (unhide HBd).2
            clear HBd
            go_wp2_with fail
            refine (rNumber_any w wr cb vk false rest (unhide HC)).mono ?_
            rintro e w3 ⟨g3, h3⟩
            have R3 : Hid (ROwn w3 w.heap.size u8 X) := hide ((unhide HR).kept g3 (fun z hz e => (unhide HR).ne hz (unhide HC).blk (by decide) (by simpa using e)))
            clear g3 c1
            rcases h3 with ⟨e3, n3, rfl, v3, k3⟩ | ⟨no3, z3, hz3, rfl, k3⟩
            · have K3 := hide k3
              have E3 := hide (And.intro e3 n3)
              obtain ⟨N3, hN3⟩ : ∃ N, N = (rd rest).1 := ⟨_, rfl⟩
              obtain ⟨r3, hr3⟩ : ∃ r, r = rest.drop (rd rest).2.1 := ⟨_, rfl⟩
              rw [if_pos (unhide E3), ← hr3, ← hN3] at HSt
              rw [← hr3] at K3
              rw [← hN3] at n3 ⊢
              have hN3I : (N3 : Int) ≤ 32768 := by omega
              clear k3 e3 hN3 hr3 E3 HC HR
              go_wp2_with fail
              refine (rNumber_any w w3 cb v3 false r3 (unhide K3)).mono ?_
              rintro e w4 ⟨g4, h4⟩
              have R4 : Hid (ROwn w4 w.heap.size u8 X) := hide ((unhide R3).kept g4 (fun z hz e => (unhide R3).ne hz (unhide K3).blk (by decide) (by simpa using e)))
              clear g4 R3 K3
              rcases h4 with ⟨e4, n4, rfl, v4, k4⟩ | ⟨no4, z4, hz4, rfl, k4⟩
              · have C4 := hide k4
                have E4 := hide (And.intro e4 n4)
                obtain ⟨N4, hN4⟩ : ∃ N, N = (rd r3).1 := ⟨_, rfl⟩
                obtain ⟨r4, hr4⟩ : ∃ r, r = r3.drop (rd r3).2.1 := ⟨_, rfl⟩
                rw [if_pos (unhide E4), ← hr4, ← hN4] at HSt
                rw [← hr4] at C4
                rw [← hN4] at n4 ⊢
                have hN4I : (N4 : Int) ≤ 32768 := by omega
                clear k4 e4 hN4 hr4 E4
                have HF : Hid (∀ x' W', ROwn W' w.heap.size x' (X ++ [(N3, N4)]) → CuAt w W' cb v4 false r4 → LSt w W' cb m (k + 1) l2 x') := hide (fun x' W' hR' hC' => LSt.good (by omega) (by rw [List.length_append, unhide HXl]; rfl) hR' hC' (fun y hy => by
                  rcases List.mem_append.1 hy with hy | hy
                  · exact unhide hXm y hy
                  · simp at hy
                    subst hy
                    exact ⟨n3, n4⟩) (by
                  rw [unhide hEq, unhide HSt, Option.map_map, flatX_snoc]
                  congr 1
                  funext p
                  simp))
                go_wp2_with (at_builtin; refine wpList_append_run (base := w.heap.size) (v := u8) (xs := X) (ad := ⟨w4.heap.size, 0, none⟩) (c := 1) (y := (N3, N4)) ?q11 (.tmp 34) (.tmp 39) ?q12 ?q13 ?q14 ?q15 ?q16 ?q17 ?q18 ?q19)
                case q11 => rfl
                case q12 => rfl
                case q13 => rfl
                case q14 => exact (unhide R4).grown (World.grownBy_alloc _ _ _)
                case q15 => have := (unhide C4).grown.size; simp; omega
                case q16 => have := unhide HXl; omega
                case q17 => rfl
                intro v5 w5 o5 g5
                have L5 := hide (unhide HF v5 w5 o5 (((unhide C4).kept (World.grownBy_alloc _ _ _)).step ((unhide R4).grown (World.grownBy_alloc _ _ _)) g5))
                clear o5 g5 R4 C4 HF
                go_wp2
                go_roundw
                case rel => exact ⟨k + 1, rfl, unhide L5⟩
                case measure => simp [intOf]; omega
              · have C4 := hide k4
                have HF : Hid (∀ x' W', ROwn W' w.heap.size x' (X ++ [(N3, z4)]) → CuAt w W' cb v3 true r3 → LSt w W' cb m (k + 1) l2 x') := hide (fun x' W' hR' hC' => LSt.bad (by omega) (by rw [List.length_append, unhide HXl]; rfl) hR' hC' (by
                  rw [unhide hEq, unhide HSt, if_neg no4]
                  rfl))
                have hz4I : (z4 : Int) ≤ 32768 := by omega
                clear k4 no4
                go_wp2_with (at_builtin; refine wpList_append_run (base := w.heap.size) (v := u8) (xs := X) (ad := ⟨w4.heap.size, 0, none⟩) (c := 1) (y := (N3, z4)) ?q21 (.tmp 34) (.tmp 39) ?q22 ?q23 ?q24 ?q25 ?q26 ?q27 ?q28 ?q29)
                case q21 => rfl
                case q22 => rfl
                case q23 => rfl
                case q24 => exact (unhide R4).grown (World.grownBy_alloc _ _ _)
                case q25 => have := (unhide C4).grown.size; simp; omega
                case q26 => have := unhide HXl; omega
                case q27 => rfl
                intro v5 w5 o5 g5
                have L5 := hide (unhide HF v5 w5 o5 (((unhide C4).kept (World.grownBy_alloc _ _ _)).step ((unhide R4).grown (World.grownBy_alloc _ _ _)) g5))
                clear o5 g5 R4 C4 HF
                go_wp2
                go_roundw
                case rel => exact ⟨k + 1, rfl, unhide L5⟩
                case measure => simp [intOf]; omega
            · have K3 := hide k3
              have NO := hide no3
              have hz3I : (z3 : Int) ≤ 32768 := by omega
              clear k3 no3 HC HR
              go_wp2_with fail
              refine (rNumber_any w w3 cb vk true rest (unhide K3)).mono ?_
              rintro e w4 ⟨g4, h4⟩
              have R4 : Hid (ROwn w4 w.heap.size u8 X) := hide ((unhide R3).kept g4 (fun z hz e => (unhide R3).ne hz (unhide K3).blk (by decide) (by simpa using e)))
              clear g4 R3 K3
              rcases h4 with ⟨e4, n4, rfl, v4, k4⟩ | ⟨no4, z4, hz4, rfl, k4⟩
              · exact absurd ⟨e4, n4⟩ (unhide NO)
              · have C4 := hide k4
                have HF : Hid (∀ x' W', ROwn W' w.heap.size x' (X ++ [(z3, z4)]) → CuAt w W' cb vk true rest → LSt w W' cb m (k + 1) l2 x') := hide (fun x' W' hR' hC' => LSt.bad (by omega) (by rw [List.length_append, unhide HXl]; rfl) hR' hC' (by
                  rw [unhide hEq, unhide HSt, if_neg (unhide NO)]
                  rfl))
                have hz4I : (z4 : Int) ≤ 32768 := by omega
                clear k4 no4
                go_wp2_with (at_builtin; refine wpList_append_run (base := w.heap.size) (v := u8) (xs := X) (ad := ⟨w4.heap.size, 0, none⟩) (c := 1) (y := (z3, z4)) ?q31 (.tmp 34) (.tmp 39) ?q32 ?q33 ?q34 ?q35 ?q36 ?q37 ?q38 ?q39)
                case q31 => rfl
                case q32 => rfl
                case q33 => rfl
                case q34 => exact (unhide R4).grown (World.grownBy_alloc _ _ _)
                case q35 => have := (unhide C4).grown.size; simp; omega
                case q36 => have := unhide HXl; omega
                case q37 => rfl
                intro v5 w5 o5 g5
                have L5 := hide (unhide HF v5 w5 o5 (((unhide C4).kept (World.grownBy_alloc _ _ _)).step ((unhide R4).grown (World.grownBy_alloc _ _ _)) g5))
                clear o5 g5 R4 C4 HF
                go_wp2
                go_roundw
                case rel => exact ⟨k + 1, rfl, unhide L5⟩
                case measure => simp [intOf]; omega
          · have hlt' : ¬ (k : Int) < (m : Int) := by omega
            have hke : m - k = 0 := by omega
            have c0 := (unhide HC).bytes
            have c1 := (unhide HC).flag
            have HP : Hid (prt l = some (N1, X, rest)) := hide (by
              have h1 := (unhide HBd).2
              rw [hke, Nat.mul_zero] at h1
              have h2 : nums (2 * m) l2 = some (flatX X, rest) := by rw [h1]; simp [nums]
              unfold prt
              rw [unhide H2]
              simp only
              rw [show 2 * [N1, m].getD 1 0 = 2 * m from rfl, h2]
              simp [pairs_flat])
            have hXm := (unhide HBd).1
            clear HBd hke
            have hcl := (unhide HC).lt
            obtain ⟨rho, rhc, hvk, hrl, hrc, hr4⟩ := (unhide HC).sl
            clear hr4
            have HRL : Hid (rest.length ≤ l.length) := hide (by
              have h1 := congrArg List.length (prt_canon (unhide HP))
              simp at h1
              omega)
            have M5 := hide (RdAt.new wr)
            have C5 := hide ((unhide HC).kept (World.grownBy_alloc wr (.cells #[.int .i64 0, .slice none 0 0] 30) none))
            have R5 : Hid (Rn (wr.alloc (.cells #[.int .i64 0, .slice none 0 0] 30)) u8 (X.map toI)) := hide (((unhide HR).grown (World.grownBy_alloc _ _ _)).rn (fun x hx => by have := hXm x hx; omega))
            have hXl2 : X.length ≤ 32768 := by have := unhide HXl; omega
            have HB0 : Hid (bf (0 + N1) - bf 0 = bf N1) := hide (by rw [Nat.zero_add]; unfold bf; omega)
            go_wp2_with fail
            refine (rExtend_any _ wr.heap.size 0 N1 _ u8 [] (X.map toI) (unhide M5) (by omega) (unhide R5) (by rw [List.length_map]; omega)).mono ?_
            obtain ⟨b2, hb2⟩ : ∃ b2, b2 = wr.heap.size := ⟨_, rfl⟩
            have HB2 : Hid (w.heap.size ≤ b2) := hide (by rw [hb2]; exact (unhide HC).grown.size)
            have HNe : Hid (cb ≠ b2) := hide (by omega)
            rw [← hb2] at M5 ⊢
            obtain ⟨W5, hW5⟩ : ∃ W5, W5 = wr.alloc (.cells #[.int .i64 0, .slice none 0 0] 30) := ⟨_, rfl⟩
            rw [← hW5] at M5 C5 R5 ⊢
            clear hb2 hW5 HC HR c0 c1 hXm
            rintro e w6 h6
            rcases h6 with ⟨no6, rfl, g6⟩ | ⟨ok6, rfl, v6, m6, g6⟩
            · rw [unhide HB0] at no6
              have fin : RReadPost w l (.returned (.tuple #[.pointer none, .int .i64 0, .int .i64 61])) w6 := ⟨(unhide C5).grown.trans g6, .inl ⟨by
                unfold rdN
                rw [unhide HP]
                simp only
                rw [if_neg (fun h => no6 h.1)], rfl⟩⟩
              have FIN := hide fin
              clear fin no6 g6
              go_wp2
              go_ret3
              exact unhide FIN
            · rw [unhide HB0] at ok6
              rw [Nat.zero_add, List.nil_append, bksI_toI] at m6
              have HAlt := hide (rdN_alt (unhide HP) ok6)
              have M6 := hide m6
              have C6 : Hid (CuAt w w6 cb vk false rest) := hide ⟨(g6.block cb (unhide C5).lt (by simpa using unhide HNe)).trans (unhide C5).blk, (unhide C5).sl, (unhide C5).new, own_step (unhide C5).grown (unhide HB2) g6⟩
              have c0 := (unhide C6).bytes
              clear m6 g6 ok6 M5 C5 R5
              subst hvk
              have hrI : (rest.length : Int) ≤ (l.length : Int) := by have := unhide HRL; omega
              obtain ⟨nn, hnn⟩ : ∃ nn, nn = l.length - rest.length := ⟨_, rfl⟩
              rw [← hnn] at HAlt
              have HNn : Hid ((l.length : Int) - (rest.length : Int) = (nn : Int)) := hide (by have := unhide HRL; omega)
              have hnl : nn ≤ l.length := by omega
              have hnI : (nn : Int) ≤ (l.length : Int) := by omega
              have hlcI : (l.length : Int) ≤ (cap : Int) := by omega
              have hcI : (cap : Int) ≤ 9223372036854775807 := by omega
              have HTk : Hid (∀ W, w.grownBy W none → Sl W (.slice ao nn cap) (l.take nn)) := hide (fun W hg => by
                obtain ⟨ao', cap', e, a1, a2, a4⟩ := (unhide HV).kept hg
                injection e with e1 e2 e3
                subst e1 e3
                have hl : (l.take nn).length = nn := by rw [List.length_take]; omega
                refine ⟨ao, cap, by rw [hl], by rw [hl]; omega, a2, fun hne => ?_⟩
                obtain ⟨b, off, e, hb, hc⟩ := a4 hne
                exact ⟨b, off, e, hb, fun i hi => by rw [List.getElem_take]; exact hc i (by rw [hl] at hi; omega)⟩)
              clear hnn
              go_upto_region 14 with fail
              rw [unhide HNn]
              have G6 : Hid (w.grownBy w6 none) := hide (unhide C6).grown
              clear C6 c0
              have st0 := (unhide HTk w6 (unhide G6)).str
              have st0d := (unhide HTk w6.drew ((unhide G6).trans (gr_d _))).str
              go_cut [69] from 62 to 68 (fun t wx => t = .bool (decide (tellN N1 (bks X) ≠ l.take nn)) ∧ w6.grownBy wx none)
              case first =>
                by_cases heq : tellN N1 (bks X) = l.take nn
                · have HD : Hid (decide (tellN N1 (bks X) ≠ l.take nn) = false) := hide (decide_eq_false (fun h => h heq))
                  have hbe : (tellN N1 (bks X) == l.take nn) = true := beq_iff_eq.2 heq
                  clear heq
                  go_region_with (go_at_call 33; refine (rBytes_any _ b2 N1 v6 (bks X) ((unhide M6).drewN _)).mono ?_; rintro e w7 ⟨u7, rfl, o7, g7⟩; have st7 := o7.sl.str; have st07 := (unhide HTk w7 ((unhide G6).trans ((gr_d _).trans g7))).str; have G7 : Hid (w6.grownBy w7 none) := hide ((gr_d _).trans g7); clear o7 g7)
                  all_goals go_wp2_with fail
                  all_goals go_meet
                  all_goals exact ⟨by rw [unhide HD], unhide G7⟩
                · have HD : Hid (decide (tellN N1 (bks X) ≠ l.take nn) = true) := hide (decide_eq_true heq)
                  have hbe : (tellN N1 (bks X) == l.take nn) = false := beq_eq_false_iff_ne.2 heq
                  clear heq
                  go_region_with (go_at_call 33; refine (rBytes_any _ b2 N1 v6 (bks X) ((unhide M6).drewN _)).mono ?_; rintro e w7 ⟨u7, rfl, o7, g7⟩; have st7 := o7.sl.str; have st07 := (unhide HTk w7 ((unhide G6).trans ((gr_d _).trans g7))).str; have G7 : Hid (w6.grownBy w7 none) := hide ((gr_d _).trans g7); clear o7 g7)
                  all_goals go_wp2_with fail
                  all_goals go_meet
                  all_goals exact ⟨by rw [unhide HD], unhide G7⟩
              case rest =>
                obtain ⟨rfl, g7⟩ := hcut
                have G7 : Hid (w.grownBy wc none) := hide ((unhide G6).trans g7)
                have M7 := hide ((unhide M6).grown g7)
                clear g7 st0 st0d
                by_cases heq : tellN N1 (bks X) = l.take nn
                · have hD : decide (tellN N1 (bks X) ≠ l.take nn) = false := decide_eq_false (fun h => h heq)
                  have hR := unhide HAlt
                  rw [if_pos heq] at hR
                  have fin : RReadPost w l (.returned (.tuple #[.pointer (some ⟨b2, 0, none⟩), .int .i64 (nn : Int), .int .i64 0])) wc := ⟨unhide G7, .inr ⟨N1, bks X, nn, b2, v6, hR, rfl, unhide HB2, unhide M7⟩⟩
                  have FIN := hide fin
                  rw [hD]
                  clear fin hR heq hD
                  go_wp2
                  go_ret3
                  exact unhide FIN
                · have hD : decide (tellN N1 (bks X) ≠ l.take nn) = true := decide_eq_true heq
                  have hR := unhide HAlt
                  rw [if_neg heq] at hR
                  have fin : RReadPost w l (.returned (.tuple #[.pointer none, .int .i64 0, .int .i64 61])) wc := ⟨unhide G7, .inl ⟨hR, rfl⟩⟩
                  have FIN := hide fin
                  rw [hD]
                  clear fin hR heq hD
                  go_wp2
                  go_ret3
                  exact unhide FIN
        | true =>
          have c1 := (unhide HC).flag
          have HNo : Hid (rdN l = none) := hide (by
            have h1 : nums (2 * m) l2 = none := unhide HBd
            unfold rdN prt
            rw [unhide H2]
            simp only
            rw [show 2 * [N1, m].getD 1 0 = 2 * m from rfl, h1]
            rfl)
          have fin : RReadPost w l (.returned (.tuple #[.pointer none, .int .i64 0, .int .i64 61])) (wr.alloc (.cells #[.int .i64 0, .slice none 0 0] 30)) := ⟨(unhide HC).grown.trans (World.grownBy_alloc _ _ _), .inl ⟨unhide HNo, rfl⟩⟩
          have FIN := hide fin
          have hcl := (unhide HC).lt
          clear fin HBd HNo
          by_cases hlt : (k : Int) < (m : Int)
          · go_wp2
            go_ret3
            exact unhide FIN
          · go_wp2
            go_ret3
            exact unhide FIN
    · have HNo : Hid (rdN l = none) := hide (by
        have h1 := unhide E1
        rw [unhide HL1] at no2
        unfold rdN prt
        rw [nums_two 0 l, if_pos h1, if_neg no2])
      have c1 := k2.flag
      have hcl := k2.lt
      have fin : RReadPost w l (.returned (.tuple #[.pointer none, .int .i64 0, .int .i64 61])) (w2.alloc (.cells #[.int .i64 0, .slice none 0 0] 30)) := ⟨k2.grown.trans (World.grownBy_alloc _ _ _), .inl ⟨unhide HNo, rfl⟩⟩
      have FIN := hide fin
      have hz2I : (z2 : Int) ≤ 32768 := by omega
      clear fin k2 no2 HNo
      go_wp2
      go_loopw [8, 9] (fun x i wr => i = .int .i64 0 ∧ x = .slice none 0 0 ∧ wr = w2) (fun _ i _ => 0)
      case atStart => exact ⟨rfl, rfl, rfl⟩
      case round =>
        obtain ⟨rfl, rfl, rfl⟩ := hrel
        by_cases hlt : (0 : Int) < (z2 : Int)
        · go_wp2
          go_ret3
          exact unhide FIN
        · go_wp2
          go_ret3
          exact unhide FIN
  · have NO := hide no1
    have K1 := hide k1
    have hz1I : (z1 : Int) ≤ 32768 := by omega
    clear k1 no1
    go_wp2_with fail
    refine (rNumber_any w w1 cb _ true l (unhide K1)).mono ?_
    rintro e w2 ⟨g2, h2⟩
    clear g2 K1
    rcases h2 with ⟨e2, n2, rfl, v2, k2⟩ | ⟨no2, z2, hz2, rfl, k2⟩
    · exact absurd ⟨e2, n2⟩ (unhide NO)
    · have HNo : Hid (rdN l = none) := hide (by
        unfold rdN prt
        rw [nums_two 0 l, if_neg no2])
      have c1 := k2.flag
      have hcl := k2.lt
      have fin : RReadPost w l (.returned (.tuple #[.pointer none, .int .i64 0, .int .i64 61])) (w2.alloc (.cells #[.int .i64 0, .slice none 0 0] 30)) := ⟨k2.grown.trans (World.grownBy_alloc _ _ _), .inl ⟨unhide HNo, rfl⟩⟩
      have FIN := hide fin
      have hz2I : (z2 : Int) ≤ 32768 := by omega
      clear fin k2 no2 HNo
      go_wp2
      go_loopw [8, 9] (fun x i wr => i = .int .i64 0 ∧ x = .slice none 0 0 ∧ wr = w2) (fun _ i _ => 0)
      case atStart => exact ⟨rfl, rfl, rfl⟩
      case round =>
        obtain ⟨rfl, rfl, rfl⟩ := hrel
        by_cases hlt : (0 : Int) < (z2 : Int)
        · go_wp2
          go_ret3
          exact unhide FIN
        · go_wp2
          go_ret3
          exact unhide FIN
end Go.Proofs.Ytikoegmpbjeadaa
