/-
  DERIVED. The reader: head.
-/
import Derived.Test.YtankbanonbmffabGreatDoorRqN
import Derived.Lib.AtoiErrMem
import Derived.Laws.EntriesVeiled
namespace Go.Proofs.YtankbanonbmffabGreatDoor
open Go.RowKit
set_option linter.unusedVariables false

theorem decFrom_foldl : ∀ (s : List UInt8) (acc : Nat), s.all digitB = true → Lib.decFrom acc s = some (s.foldl (fun n c => 10 * n + (c.toNat - 48)) acc)
  | [], acc, _ => rfl
  | c :: r, acc, h => by
    simp only [List.all_cons, Bool.and_eq_true] at h
    have hc : 48 ≤ c.toNat ∧ c.toNat ≤ 57 := by have := h.1; unfold digitB at this; simp at this; omega
    rw [Lib.decFrom, Lib.digitVal, if_pos hc]
    simp only [List.foldl_cons]
    rw [decFrom_foldl r _ h.2, Nat.mul_comm]
theorem atoi_qDec {s : List UInt8} (h : qLength s = true) : Lib.atoi s = some ((qDec s : Nat) : Int) := by
  unfold qLength at h
  simp only [Bool.and_eq_true, decide_eq_true_eq] at h
  obtain ⟨⟨h1, h2⟩, h3⟩ := h
  cases s with
  | nil => simp at h1
  | cons c r =>
    have hc : 48 ≤ c.toNat ∧ c.toNat ≤ 57 := by
      have := List.all_eq_true.1 h3 c (by simp); unfold digitB at this; simp at this; omega
    have n45 : (c == 45) = false := by rw [beq_eq_false_iff_ne]; intro e; subst e; exact absurd hc.1 (by decide)
    have n43 : (c == 43) = false := by rw [beq_eq_false_iff_ne]; intro e; subst e; exact absurd hc.1 (by decide)
    rw [Lib.atoi, n45, n43]
    simp only [Bool.false_eq_true, if_false, Lib.decNat, List.isEmpty_cons]
    rw [decFrom_foldl _ _ h3]; rfl
theorem qDec_lt {s : List UInt8} (h : qLength s = true) : qDec s < 10 ^ 9 := by
  unfold qLength at h
  simp only [Bool.and_eq_true, decide_eq_true_eq] at h
  obtain ⟨⟨h1, h2⟩, h3⟩ := h
  have key : ∀ (k : Nat) (s : List UInt8) (acc : Nat), s.length ≤ k → s.all digitB = true → s.foldl (fun n c => 10 * n + (c.toNat - 48)) acc + 1 ≤ (acc + 1) * 10 ^ k := by
    intro k
    induction k with
    | zero => intro s acc hs _; cases s with
      | nil => simp
      | cons _ _ => simp at hs
    | succ k ih =>
      intro s acc hs ha
      cases s with
      | nil => simp only [List.foldl_nil]; exact Nat.le_mul_of_pos_right _ (Nat.pow_pos (by decide))
      | cons c r =>
        simp only [List.all_cons, Bool.and_eq_true] at ha
        have hc : c.toNat ≤ 57 := by have := ha.1; unfold digitB at this; simp at this; omega
        simp only [List.foldl_cons]
        have h := ih r (10 * acc + (c.toNat - 48)) (by simpa using hs) ha.2
        refine Nat.le_trans h ?_
        rw [Nat.pow_succ, Nat.mul_comm (10 ^ k) 10, ← Nat.mul_assoc]
        exact Nat.mul_le_mul_right _ (by omega)
  have := key 9 s 0 h2 h3
  unfold qDec; omega

/-- What is to read the body. -/
def BodyFn (o : Option Nat) (g : Nat) (fn : Value) (ln : Int) : Prop :=
  (o = none ∧ fn = .func (.func 22) #[.pointer (some ⟨g, 0, none⟩)] #[]) ∨ (∃ n : Nat, o = some n ∧ n ≤ 1000 ∧ fn = .func (.func 25) #[.pointer (some ⟨g, 0, none⟩)] #[] ∧ ln = n) ∨ (o = some 0 ∧ fn = .func (.func 26) #[.pointer (some ⟨g, 0, none⟩)] #[])
/-- What head comes to. -/
def HeadPost (r : Except Int (Option Nat)) (c : Bool) (g : Nat) (R : Rd) (w : World) (e : Ending) (w' : World) : Prop :=
  (match r with
    | .error s => e = panQ s
    | .ok o => e = .returned (.tuple #[]) ∧ ∃ fn ln, RdAt w' g { R with cl := c, fn := fn, ln := ln } ∧ BodyFn o g fn ln) ∧ QF g w w'

theorem qGet_mem {hs : List Hd} {n : List UInt8} {B : Nat} (h : ∀ x ∈ hs, x.2.length ≤ B) : (qGet hs n).1.length ≤ B := by
  unfold qGet
  cases hf : (hs.filter (·.1 == n)) with
  | nil => simp
  | cons a r =>
    have : a ∈ hs.filter (·.1 == n) := by rw [hf]; simp
    simp only [List.head?_cons, Option.map_some, Option.getD_some]
    exact h a (List.mem_filter.1 this).1

set_option maxHeartbeats 16000000 in
set_option maxRecDepth 20000 in
theorem head_any (g B : Nat) (R : Rd) (hs : List Hd) (w : World) (h : RdAt w g R) (hh : HOwn w B R.hv hs) (hsm : ∀ x ∈ hs, x.2.length ≤ 65536) (h16 : hs.length ≤ 1000) : Calls Tryz.prog 10 #[.pointer (some ⟨g, 0, none⟩)] w (HeadPost (qHead hs) (qCloses hs) g R w) := by
  obtain ⟨ha, hc, hve⟩ := hh.sl
  have HGt : Hid (∀ (W : World) (nm : List UInt8), Below w.heap.size w W → Calls Tryz.prog 6 #[.agg (rqV R.m R.p R.q (.slice ha hs.length hc) R.b R.cl), qv nm] W fun e w' => e = .returned (.tuple #[qv (qGet hs nm).1, .int .i64 ((qGet hs nm).2 : Int)]) ∧ Below W.heap.size W w') := hide (fun W nm hW => by
    have := hh.hdl.below hW (Nat.le_refl _)
    rw [hve] at this
    exact qGet_any R.m R.p R.q _ R.b R.cl hs nm W this (fun x hx => by have := hsm x hx; omega) (by omega))
  have HCl : Hid (∀ (W : World), HOwn W B (.slice ha hs.length hc) hs → Calls Tryz.prog 27 #[.slice ha hs.length hc] W fun e w' => e = .returned (.bool (qCloses hs)) ∧ Below W.heap.size W w') := hide (fun W hW => closes_any ha hc hs W hW.hdl hsm (by omega))
  have HR0 : Hid (RdAt w g { R with hv := .slice ha hs.length hc }) := hide (by rw [← hve]; exact h)
  have HO0 : Hid (HOwn w B (.slice ha hs.length hc) hs) := hide (by rw [← hve]; exact hh)
  have HPost : Hid (∀ r e w', HeadPost r (qCloses hs) g { R with hv := .slice ha hs.length hc } w e w' → HeadPost r (qCloses hs) g R w e w') := hide (fun r e w' hp => by rw [← hve] at hp; exact hp)
  obtain ⟨R', hR'⟩ : ∃ R', R' = { R with hv := .slice ha hs.length hc } := ⟨_, rfl⟩
  have hv' : R'.hv = .slice ha hs.length hc := by rw [hR']
  have hg2 : HGt = HGt := rfl
  rw [← hR'] at HR0 HPost
  have HG1 : Hid (∀ (W : World) (nm : List UInt8), Below w.heap.size w W → Calls Tryz.prog 6 #[.agg #[qv R'.m, qv R'.p, qv R'.q, .slice ha hs.length hc, qv R'.b, .bool R'.cl], qv nm] W fun e w' => e = .returned (.tuple #[qv (qGet hs nm).1, .int .i64 ((qGet hs nm).2 : Int)]) ∧ Below W.heap.size W w') := hide (by rw [hR']; exact unhide HGt)
  have l2 := qGet_mem (n := qte) hsm
  have l3 := qGet_mem (n := qcl) hsm
  have H1 := hide (fun W hW => unhide HG1 W qhost hW)
  have H2 := hide (fun W hW => unhide HG1 W qte hW)
  have H3 := hide (fun W hW => unhide HG1 W qcl hW)
  obtain ⟨F, hF⟩ : ∃ F, F = qHead hs := ⟨_, rfl⟩
  have HF := hide hF
  unfold qHead at HF
  rw [← hF]
  obtain ⟨⟨v1, n1⟩, e1⟩ : ∃ p, p = qGet hs qhost := ⟨_, rfl⟩
  obtain ⟨⟨v2, n2⟩, e2⟩ : ∃ p, p = qGet hs qte := ⟨_, rfl⟩
  obtain ⟨⟨v3, n3⟩, e3⟩ : ∃ p, p = qGet hs qcl := ⟨_, rfl⟩
  rw [← e1] at H1 HF
  rw [← e2] at H2 HF l2
  rw [← e3] at H3 HF l3
  simp only at H1 H2 H3 HF l2 l3
  have HSm := hide (fun W => small_any' v2 W (by omega))
  have HLe := hide (fun W => isLength_any v3 W (by omega))
  obtain ⟨CL, hCL⟩ : ∃ CL, CL = qCloses hs := ⟨_, rfl⟩
  rw [← hCL] at HCl HPost ⊢
  have SC : Hid (∀ W, Below w.heap.size w W → W.cell? ⟨g, 2, none⟩ = some (qv R'.m) ∧ W.cell? ⟨g, 3, none⟩ = some (qv R'.p) ∧ W.cell? ⟨g, 4, none⟩ = some (qv R'.q) ∧ W.cell? ⟨g, 5, none⟩ = some (.slice ha hs.length hc) ∧ W.cell? ⟨g, 6, none⟩ = some (qv R'.b) ∧ W.cell? ⟨g, 7, none⟩ = some (.bool R'.cl)) := hide (fun W hW => by
    have hr := (unhide HR0).same (hW.block g (unhide HR0).lt)
    exact ⟨hr.c2, hr.c3, hr.c4, by rw [hr.hv_, hv'], hr.c6, hr.c7⟩)
  have SR : Hid (∀ W, Below w.heap.size w W → RdAt W g R') := hide (fun W hW => (unhide HR0).same (hW.block g (unhide HR0).lt))
  have SO : Hid (∀ W, Below w.heap.size w W → HOwn W B (.slice ha hs.length hc) hs) := hide (fun W hW => (unhide HO0).below hW (Nat.le_refl _))
  obtain ⟨c2, c3, c4, c5, c6, c7⟩ := unhide SC w (Below.refl _ _)
  have HV' := hide hv'
  clear hR' hv' hg2 HGt HG1 hF e1 e2 e3 hCL h hh hve l2 l3
  simp only [qhost, qte, qcl] at H1 H2 H3
  go_enter Tryz.func10, Tryz.ntmps10
  go_upto_region 3 with (first | (go_at_call 6; have mk1 : True := trivial; with_reducible refine (unhide H1 _ (Below.refl _ _)).mono ?_; rintro e w1 ⟨rfl, b1⟩; have HB1 := hide b1; clear b1 c2 c3 c4 c5 c6 c7; obtain ⟨c2, c3, c4, c5, c6, c7⟩ := unhide SC w1 (unhide HB1)) | (go_at_call 6; with_reducible refine (unhide H2 _ (unhide HB1)).mono ?_; rintro e w2 ⟨rfl, b2⟩; have HB2 := hide ((unhide HB1).trans (b2.mono (unhide HB1).size)); clear b2 c2 c3 c4 c5 c6 c7; obtain ⟨c2, c3, c4, c5, c6, c7⟩ := unhide SC w2 (unhide HB2)) | (go_at_call 6; with_reducible refine (unhide H3 _ (unhide HB2)).mono ?_; rintro e w3 ⟨rfl, b3⟩; have HB3 := hide ((unhide HB2).trans (b3.mono (unhide HB2).size)); clear b3 c2 c3 c4 c5 c6 c7))
  have HErr : Hid (∀ s, F = .error s → ∀ w', QF g w w' → HeadPost F CL g R w (panQ s) w') := hide (fun s hs w' hb => by rw [hs]; exact ⟨rfl, hb⟩)
  have HOk : Hid (∀ o, F = .ok o → ∀ fn ln w', RdAt w' g { R' with cl := CL, fn := fn, ln := ln } → BodyFn o g fn ln → QF g w w' → HeadPost F CL g R w (.returned (.tuple #[])) w') := hide (fun o ho fn ln w' h1 h2 h3 => by rw [ho]; exact unhide HPost _ _ _ ⟨⟨rfl, fn, ln, h1, h2⟩, h3⟩)
  have QB : Hid (∀ W, Below w.heap.size w W → QF g w W) := hide (fun W h => QF.of h)
  clear HPost
  by_cases k1 : n1 = 1
  · rw [if_pos k1] at HF
    have e1 : ((n1 : Int) == 1) = true := by rw [k1]; rfl
    clear k1
    by_cases k2 : 0 < n2
    · rw [if_pos k2] at HF
      have e2 : (0 : Int) < (n2 : Int) := by omega
      by_cases k3 : n3 = 0
      · rw [if_pos k3] at HF
        have e3 : ((n3 : Int) == 0) = true := by rw [k3]; rfl
        clear k3
        by_cases k4 : n2 = 1
        · have e4 : ((n2 : Int) == 1) = true := by rw [k4]; rfl
          obtain ⟨Z, hZ⟩ : ∃ Z, (qSmall v2 == qchunked) = Z := ⟨_, rfl⟩
          have hZ' : (qSmall v2 == [99, 104, 117, 110, 107, 101, 100]) = Z := hZ
          have HZ := hide hZ
          obtain ⟨sm, hsm2⟩ : ∃ sm, sm = qSmall v2 := ⟨_, rfl⟩
          rw [← hsm2] at hZ' HSm
          cases Z with
          | true =>
            have HE : Hid (F = .ok none) := hide (by rw [unhide HF, if_pos ⟨k4, by simpa using hZ⟩])
            clear HF k2 k4 hZ hsm2
            go_upto_region 8 with (first | (go_at_call 14; with_reducible refine (need_ok 400 _).mono ?_; rintro e w3 ⟨rfl, rfl⟩) | (go_at_call 20; refine (unhide HSm _).mono ?_; rintro e w5 ⟨rfl, b5⟩; have HB5 := hide ((unhide HB3).trans (b5.mono (unhide HB3).size)); clear b5) | (go_at_call 14; with_reducible refine (need_ok 501 _).mono ?_; rintro e w5 ⟨rfl, rfl⟩))
            have rd0 := unhide SR w5 (unhide HB5)
            have qf0 : QF g w w5 := unhide QB _ (unhide HB5)
            have ow0 := unhide SO w5 (unhide HB5)
            have f8 := rd0.fz 8
            have c8 := rd0.fn_
            have rd1 := rd0.setFn (.func (.func 22) #[.pointer (some ⟨g, 0, none⟩)] #[])
            have qf1 := qf0.set 8 (.func (.func 22) #[.pointer (some ⟨g, 0, none⟩)] #[])
            have ow1 := ow0.qf ((QF.refl g w5).set 8 (.func (.func 22) #[.pointer (some ⟨g, 0, none⟩)] #[])) rd0
            have HRD := hide rd1
            have HQF := hide qf1
            have HOW := hide ow1
            clear rd0 qf0 ow0 rd1 qf1 ow1
            go_upto_region 14 with fail
            obtain ⟨w7, hw7⟩ : ∃ w7, w7 = (w5).setCell ⟨g, 8, none⟩ (.func (.func 22) #[.pointer (some ⟨g, 0, none⟩)] #[]) := ⟨_, rfl⟩
            rw [← hw7] at HRD HQF HOW ⊢
            clear hw7 f8 c8
            have x5 : w7.cell? ⟨g, 5, none⟩ = some (.slice ha hs.length hc) := by rw [(unhide HRD).hv_]; simp only; rw [unhide HV']
            go_wp2_with (go_at_call 27; refine (unhide HCl _ (unhide HOW)).mono ?_; rintro e w8 ⟨rfl, b8⟩; have rd8 := (unhide HRD).same (b8.block g (unhide HRD).lt); have f7 := rd8.fz 7; have c7 := rd8.c7; have HR9 := hide (rd8.setCl CL); have HQ9 := hide (((unhide HQF).trans (QF.of b8)).set 7 (.bool CL)); clear rd8 b8)
            refine bodyPost_end (results_none rfl _ _ _) rfl ?_
            exact unhide HOk _ (unhide HE) _ _ _ (unhide HR9) (.inl ⟨rfl, rfl⟩) (unhide HQ9)
          | false =>
            have HE : Hid (F = .error 501) := hide (by rw [unhide HF, if_neg (by rintro ⟨_, hx⟩; rw [hx] at hZ; simp at hZ)])
            clear HF k2 k4 hZ hsm2
            go_wp2_with (first | (go_at_call 14; with_reducible refine (need_ok 400 _).mono ?_; rintro e w3 ⟨rfl, rfl⟩) | (go_at_call 20; refine (unhide HSm _).mono ?_; rintro e w5 ⟨rfl, b5⟩; have HB5 := hide ((unhide HB3).trans (b5.mono (unhide HB3).size)); clear b5) | (go_at_call 14; refine (need_no 501 _).mono ?_; rintro e w5 ⟨rfl, rfl⟩))
            exact ⟨rfl, unhide HErr _ (unhide HE) _ (unhide QB _ (unhide HB5))⟩
        · have e4 : ((n2 : Int) == 1) = false := by rw [beq_eq_false_iff_ne]; omega
          have HE : Hid (F = .error 501) := hide (by rw [unhide HF, if_neg (by rintro ⟨hx, _⟩; exact k4 hx)])
          clear HF k2 k4
          go_wp2_with (first | (go_at_call 14; with_reducible refine (need_ok 400 _).mono ?_; rintro e w3 ⟨rfl, rfl⟩) | (go_at_call 14; refine (need_no 501 _).mono ?_; rintro e w5 ⟨rfl, rfl⟩))
          exact ⟨rfl, unhide HErr _ (unhide HE) _ (unhide QB _ (unhide HB3))⟩
      · rw [if_neg k3] at HF
        have e3 : ((n3 : Int) == 0) = false := by rw [beq_eq_false_iff_ne]; omega
        clear k3 k2
        go_wp2_with (first | (go_at_call 14; with_reducible refine (need_ok 400 _).mono ?_; rintro e w3 ⟨rfl, rfl⟩) | (go_at_call 14; with_reducible refine (need_no 400 _).mono ?_; rintro e w3 ⟨rfl, rfl⟩))
        exact ⟨rfl, unhide HErr _ (unhide HF) _ (unhide QB _ (unhide HB3))⟩
    · rw [if_neg k2] at HF
      have e2 : decide ((0 : Int) < (n2 : Int)) = false := decide_eq_false (by omega)
      have e2n : decide (0 < n2) = false := decide_eq_false k2
      clear k2
      by_cases k3 : 0 < n3
      · rw [if_pos k3] at HF
        have e3 : (0 : Int) < (n3 : Int) := by omega
        obtain ⟨L, hL⟩ : ∃ L, qLength v3 = L := ⟨_, rfl⟩
        have HL := hide hL
        rw [hL] at HLe HF
        by_cases k4 : n3 = 1
        · have e4 : ((n3 : Int) == 1) = true := by rw [k4]; rfl
          cases L with
          | false =>
            have HE : Hid (F = .error 400) := hide (by rw [unhide HF, if_neg (by rintro ⟨_, hx⟩; cases hx)])
            clear HF k3 k4 hL
            go_wp2_with (first | (go_at_call 14; with_reducible refine (need_ok 400 _).mono ?_; rintro e w3 ⟨rfl, rfl⟩) | (go_at_call 23; refine (unhide HLe _).mono ?_; rintro e w3 ⟨rfl, rfl⟩) | (go_at_call 14; with_reducible refine (need_no 400 _).mono ?_; rintro e w3 ⟨rfl, rfl⟩))
            exact ⟨rfl, unhide HErr _ (unhide HE) _ (unhide QB _ (unhide HB3))⟩
          | true =>
            rw [if_pos ⟨k4, rfl⟩] at HF
            have hlt := qDec_lt hL
            have HAt : Hid (∀ W, Calls Tryz.prog 24 #[qv v3] W fun e w' => e = .returned (.tuple #[.int .i64 ((qDec v3 : Nat) : Int), .nilIface]) ∧ Below W.heap.size W w') := hide (fun W => by
              have hl9 : v3.length ≤ 9 := by unfold qLength at hL; simp at hL; omega
              refine (Tryz.strconv_Atoi ⟨v3.toArray⟩ _ (by show v3.length ≤ 18; omega) (atoi_qDec hL) W).mono ?_
              rintro e w' ⟨rfl, t, rfl⟩
              exact ⟨rfl, Lib.bytesWorld_below W 5 t⟩)
            obtain ⟨D, hD⟩ : ∃ D, D = qDec v3 := ⟨_, rfl⟩
            rw [← hD] at HAt HF hlt
            clear hL hD k3 k4
            go_upto_region 12 with (first | (go_at_call 14; with_reducible refine (need_ok 400 _).mono ?_; rintro e w3 ⟨rfl, rfl⟩) | (go_at_call 23; refine (unhide HLe _).mono ?_; rintro e w3 ⟨rfl, rfl⟩) | (go_at_call 14; with_reducible refine (need_ok 400 _).mono ?_; rintro e w3 ⟨rfl, rfl⟩) | (go_at_call 24; refine (unhide HAt _).mono ?_; rintro e w5 ⟨rfl, b5⟩; have HB5 := hide ((unhide HB3).trans (b5.mono (unhide HB3).size)); clear b5; have rd5 := unhide SR w5 (unhide HB5); have f9 := rd5.fz 9; have c9 := rd5.ln_; have HRA := hide (rd5.setLn (D : Int)); have HQA := hide ((unhide QB _ (unhide HB5)).set 9 (.int .i64 (D : Int))); have HO9 := hide ((unhide SO w5 (unhide HB5)).qf ((QF.refl g w5).set 9 (.int .i64 (D : Int))) rd5); clear rd5))
            obtain ⟨w6, hw6⟩ : ∃ w6, w6 = w5.setCell ⟨g, 9, none⟩ (.int .i64 (D : Int)) := ⟨_, rfl⟩
            rw [← hw6] at HRA HQA HO9 ⊢
            clear hw6 f9 c9
            have c9 := (unhide HRA).ln_
            by_cases k5 : D ≤ 1000
            · have HE : Hid (F = .ok (some D)) := hide (by rw [unhide HF, if_pos k5])
              have HK5 := hide k5
              have e5 : (D : Int) ≤ 1000 := by omega
              clear k5
              go_upto_region 13 with (go_at_call 14; with_reducible refine (need_ok 413 _).mono ?_; rintro e w6 ⟨rfl, rfl⟩)
              clear c9
              have rd0 := unhide HRA
              have qf0 : QF g w w6 := unhide HQA
              have ow0 := unhide HO9
              have f8 := rd0.fz 8
              have c8 := rd0.fn_
              have rd1 := rd0.setFn (.func (.func 25) #[.pointer (some ⟨g, 0, none⟩)] #[])
              have qf1 := qf0.set 8 (.func (.func 25) #[.pointer (some ⟨g, 0, none⟩)] #[])
              have ow1 := ow0.qf ((QF.refl g w6).set 8 (.func (.func 25) #[.pointer (some ⟨g, 0, none⟩)] #[])) rd0
              have HRD := hide rd1
              have HQF := hide qf1
              have HOW := hide ow1
              clear rd0 qf0 ow0 rd1 qf1 ow1
              go_upto_region 14 with fail
              obtain ⟨w7, hw7⟩ : ∃ w7, w7 = (w6).setCell ⟨g, 8, none⟩ (.func (.func 25) #[.pointer (some ⟨g, 0, none⟩)] #[]) := ⟨_, rfl⟩
              rw [← hw7] at HRD HQF HOW ⊢
              clear hw7 f8 c8
              have x5 : w7.cell? ⟨g, 5, none⟩ = some (.slice ha hs.length hc) := by rw [(unhide HRD).hv_]; simp only; rw [unhide HV']
              go_wp2_with (go_at_call 27; refine (unhide HCl _ (unhide HOW)).mono ?_; rintro e w8 ⟨rfl, b8⟩; have rd8 := (unhide HRD).same (b8.block g (unhide HRD).lt); have f7 := rd8.fz 7; have c7 := rd8.c7; have HR9 := hide (rd8.setCl CL); have HQ9 := hide (((unhide HQF).trans (QF.of b8)).set 7 (.bool CL)); clear rd8 b8)
              refine bodyPost_end (results_none rfl _ _ _) rfl ?_
              exact unhide HOk _ (unhide HE) _ _ _ (unhide HR9) (.inr (.inl ⟨D, rfl, unhide HK5, rfl, rfl⟩)) (unhide HQ9)
            · have HE : Hid (F = .error 413) := hide (by rw [unhide HF, if_neg k5])
              have e5 : decide ((D : Int) ≤ 1000) = false := decide_eq_false (by omega)
              have e5n : decide (D ≤ 1000) = false := decide_eq_false k5
              clear k5
              go_wp2_with (go_at_call 14; refine (need_no 413 _).mono ?_; rintro e w6 ⟨rfl, rfl⟩)
              exact ⟨rfl, unhide HErr _ (unhide HE) _ (unhide HQA)⟩
        · have e4 : ((n3 : Int) == 1) = false := by rw [beq_eq_false_iff_ne]; omega
          have HE : Hid (F = .error 400) := hide (by rw [unhide HF, if_neg (by rintro ⟨hx, _⟩; exact k4 hx)])
          clear HF k3 k4 hL
          go_wp2_with (first | (go_at_call 14; with_reducible refine (need_ok 400 _).mono ?_; rintro e w3 ⟨rfl, rfl⟩) | (go_at_call 14; with_reducible refine (need_no 400 _).mono ?_; rintro e w3 ⟨rfl, rfl⟩))
          exact ⟨rfl, unhide HErr _ (unhide HE) _ (unhide QB _ (unhide HB3))⟩
      · rw [if_neg k3] at HF
        have HE := HF
        have e3 : decide ((0 : Int) < (n3 : Int)) = false := decide_eq_false (by omega)
        have e3n : decide (0 < n3) = false := decide_eq_false k3
        clear k3
        go_upto_region 4 with (go_at_call 14; with_reducible refine (need_ok 400 _).mono ?_; rintro e w3 ⟨rfl, rfl⟩)
        have rd0 := unhide SR w3 (unhide HB3)
        have qf0 : QF g w w3 := unhide QB _ (unhide HB3)
        have ow0 := unhide SO w3 (unhide HB3)
        have f8 := rd0.fz 8
        have c8 := rd0.fn_
        have rd1 := rd0.setFn (.func (.func 26) #[.pointer (some ⟨g, 0, none⟩)] #[])
        have qf1 := qf0.set 8 (.func (.func 26) #[.pointer (some ⟨g, 0, none⟩)] #[])
        have ow1 := ow0.qf ((QF.refl g w3).set 8 (.func (.func 26) #[.pointer (some ⟨g, 0, none⟩)] #[])) rd0
        have HRD := hide rd1
        have HQF := hide qf1
        have HOW := hide ow1
        clear rd0 qf0 ow0 rd1 qf1 ow1
        go_upto_region 14 with fail
        obtain ⟨w7, hw7⟩ : ∃ w7, w7 = (w3).setCell ⟨g, 8, none⟩ (.func (.func 26) #[.pointer (some ⟨g, 0, none⟩)] #[]) := ⟨_, rfl⟩
        rw [← hw7] at HRD HQF HOW ⊢
        clear hw7 f8 c8
        have x5 : w7.cell? ⟨g, 5, none⟩ = some (.slice ha hs.length hc) := by rw [(unhide HRD).hv_]; simp only; rw [unhide HV']
        go_wp2_with (go_at_call 27; refine (unhide HCl _ (unhide HOW)).mono ?_; rintro e w8 ⟨rfl, b8⟩; have rd8 := (unhide HRD).same (b8.block g (unhide HRD).lt); have f7 := rd8.fz 7; have c7 := rd8.c7; have HR9 := hide (rd8.setCl CL); have HQ9 := hide (((unhide HQF).trans (QF.of b8)).set 7 (.bool CL)); clear rd8 b8)
        refine bodyPost_end (results_none rfl _ _ _) rfl ?_
        exact unhide HOk _ (unhide HE) _ _ _ (unhide HR9) (.inr (.inr ⟨rfl, rfl⟩)) (unhide HQ9)
  · rw [if_neg k1] at HF
    have e1 : ((n1 : Int) == 1) = false := by rw [beq_eq_false_iff_ne]; omega
    clear k1
    go_wp2_with (go_at_call 14; with_reducible refine (need_no 400 _).mono ?_; rintro e w3 ⟨rfl, rfl⟩)
    exact ⟨rfl, unhide HErr _ (unhide HF) _ (unhide QB _ (unhide HB3))⟩
end Go.Proofs.YtankbanonbmffabGreatDoor
