/-
  CodecOrder: for every two numbers and every list of texts, together of bulk at most 1048576, it returns true, and its arguments read as before.
-/
import Derived.Test.YtgnbokcganlbmabText
import Derived.Test.YtgnbokcganlbmabMath3
import Derived.Test.YtgnbokcganlbmabOpen
import Derived.SliceStrings
import Derived.JoinedCond
namespace Go.Proofs.Ytgnbokcganlbmab
open Go.ChangeShapes Go.WideShapes Go.ChangeAt Go.RowKit
set_option linter.unusedVariables false

theorem layF_mono : ∀ (f a b : Nat), a ≤ b → (layF f a).length ≤ (layF f b).length
  | 0, a, b, _ => by simp [layF]
  | f + 1, a, b, h => by
    simp only [layF]
    by_cases h1 : b < 128
    · rw [if_pos h1, if_pos (by omega)]; simp
    · rw [if_neg h1]
      by_cases h2 : a < 128
      · rw [if_pos h2]; simp
      · rw [if_neg h2]
        have := layF_mono f (a / 128) (b / 128) (by omega)
        simp only [List.length_cons]; omega
theorem lay_mono {a b : Nat} (h : a ≤ b) : (lay a).length ≤ (lay b).length := layF_mono 9 a b h

/-- A slice of texts. -/
def Ss (w : World) (v : Value) (ss : List (List UInt8)) : Prop :=
  ∃ ao cap, v = .slice ao ss.length cap ∧ ss.length ≤ cap ∧ cap ≤ 9223372036854775807 ∧
    (ss.length ≠ 0 → ∃ b off, ao = some ⟨b, off, none⟩ ∧ b < w.heap.size ∧ ∀ i, (h : i < ss.length) → w.cell? ⟨b, off + i, none⟩ = some (.string ⟨ss[i].toArray⟩))

def laidT (ss : List (List UInt8)) : List UInt8 := (ss.map layT).flatten
theorem laidT_snoc (ss : List (List UInt8)) (s : List UInt8) : laidT (ss ++ [s]) = laidT ss ++ layT s := by simp [laidT]
theorem laidT_cons (ss : List (List UInt8)) (s : List UInt8) : laidT (s :: ss) = layT s ++ laidT ss := by simp [laidT]
theorem layT_len (s : List UInt8) : 1 ≤ (layT s).length ∧ (layT s).length ≤ 10 + s.length := by
  have := lay_len s.length
  simp [layT]; omega
theorem pc_layT (s r : List UInt8) (hs : s.length < 18446744073709551616) : pcE (layT s ++ r) s.length = 0 ∧ pcK (layT s ++ r) s.length = (layT s).length ∧ pcD (layT s ++ r) s.length = s := by
  have hr : rd (layT s ++ r) = (s.length, (lay s.length).length, 0) := by
    unfold layT
    rw [List.append_assoc]
    exact rd_lay _ hs _
  have hE : pcE (layT s ++ r) s.length = 0 := by
    unfold pcE
    rw [hr]
    simp only
    rw [if_neg (by simp), if_neg (by omega), if_neg (by simp only [layT, List.length_append]; omega)]
  refine ⟨hE, ?_, ?_⟩
  · unfold pcK; rw [if_pos hE, hr]; simp [layT]
  · unfold pcD; rw [if_pos hE, hr]; simp [layT]
theorem Text_at (v : Value) (l : List UInt8) (most : Int) (s : List UInt8) (k : Nat) (w : World) (hv : Sl w v l) (hm0 : -9223372036854775808 ≤ most) (hm : most ≤ 9223372036854775807) (h : pcE l most = 0 ∧ pcK l most = k ∧ pcD l most = s) :
    Calls Try.prog 24 #[v, .int .i64 most] w fun e w' => e = .returned (.tuple #[.string ⟨s.toArray⟩, .int .i64 k, .int .i64 0]) ∧ w = w' := by
  have := Text_any v l most w hv hm0 hm
  rw [h.1, h.2.1, h.2.2] at this
  exact this

def sumLen (ss : List (List UInt8)) : Nat := (ss.map List.length).sum
theorem sumLen_at (ss : List (List UInt8)) (i : Nat) (h : i < ss.length) : ss[i].length ≤ sumLen ss := by
  unfold sumLen
  induction ss generalizing i with
  | nil => simp at h
  | cons x r ih =>
    cases i with
    | zero => simp
    | succ j =>
      have := ih j (by simpa using h)
      simp only [List.getElem_cons_succ, List.map_cons, List.sum_cons]
      omega
theorem sumLen_take (ss : List (List UInt8)) (k : Nat) : sumLen (ss.take k) ≤ sumLen ss := by
  unfold sumLen
  induction ss generalizing k with
  | nil => simp
  | cons x r ih =>
    cases k with
    | zero => simp
    | succ j =>
      have := ih j
      simp only [List.take_succ_cons, List.map_cons, List.sum_cons]
      omega
theorem laidT_len : ∀ (ss : List (List UInt8)), (laidT ss).length ≤ 10 * ss.length + sumLen ss
  | [] => by simp [laidT]
  | s :: r => by
    have h1 := (layT_len s).2
    have h2 := laidT_len r
    rw [laidT_cons]
    simp only [List.length_append, List.length_cons, sumLen, List.map_cons, List.sum_cons] at *
    omega

theorem own_some {w : World} {base : Nat} {v : Value} {L : List UInt8} (h : Own w base v L) (hL : 1 ≤ L.length) : ∃ g cap, v = .slice (some ⟨g, 0, none⟩) L.length cap := by
  rcases h.2 with ⟨rfl, hz⟩ | ⟨g, cap, cur, rfl, _⟩
  · omega
  · exact ⟨g, cap, rfl⟩
theorem shaped {f : FuncId} {args : Array Value} {w : World} {L : List UInt8} (hL : 1 ≤ L.length)
    (h : Calls Try.prog f args w fun e w' => ∃ v', e = .returned v' ∧ Own w' w.heap.size v' L ∧ Below w.heap.size w w') :
    Calls Try.prog f args w fun e w' => ∃ g N cap, e = .returned (.slice (some ⟨g, 0, none⟩) N cap) ∧ Own w' w.heap.size (.slice (some ⟨g, 0, none⟩) N cap) L ∧ Below w.heap.size w w' := by
  refine h.mono ?_
  rintro e w' ⟨v', rfl, h1, h2⟩
  obtain ⟨g, cap, rfl⟩ := own_some h1 hL
  exact ⟨g, _, cap, rfl, h1, h2⟩

theorem PutUint_nil (n : Nat) (w : World) (hn : n ≤ 18446744073709551615) :
    Calls Try.prog 22 #[.slice none 0 0, .int .u64 n] w fun e w' => ∃ v', e = .returned v' ∧ Own w' w.heap.size v' (lay n) ∧ Below w.heap.size w w' := by
  have := PutUint_any (.slice none 0 0) [] n w (nil_sl _) hn (by simp)
  rw [List.nil_append] at this
  exact this

set_option maxHeartbeats 8000000 in
set_option maxRecDepth 100000 in
theorem Order.core (a b lo hi : Nat) (ao : Option Addr) (cap n T : Nat) (ss : List (List UInt8)) (w : World) (hlo : lo ≤ 18446744073709551615) (hhi : hi ≤ 18446744073709551615)
    (hab : (a = lo ∧ b = hi ∧ lo < hi) ∨ (a = hi ∧ b = lo ∧ lo < hi) ∨ (a = lo ∧ b = lo ∧ hi = lo)) (c1 : n ≤ cap) (c2 : cap ≤ 9223372036854775807) (hTn : T ≤ n) (hT30 : T ≤ 30)
    (HC : Hid (ss.length ≠ 0 → ∃ b off, ao = some ⟨b, off, none⟩ ∧ b < w.heap.size ∧ ∀ i, (h : i < ss.length) → w.cell? ⟨b, off + i, none⟩ = some (.string ⟨ss[i].toArray⟩)))
    (HN : Hid (n = ss.length)) (HQ : Hid ((lay lo).length ≤ (lay hi).length ∧ (1 ≤ (lay lo).length ∧ (lay lo).length ≤ 10) ∧ 1 ≤ (lay hi).length ∧ (lay hi).length ≤ 10)) (HT : Hid (T = min n 30)) (hs : sumLen ss ≤ 2000000) :
    Calls Try.prog 8 #[.int .u64 a, .int .u64 b, .slice ao n cap] w fun e w' => e = .returned (.bool true) ∧ Below w.heap.size w w' := by
  have HS := hide hs
  clear hs
  rcases hab with ⟨rfl, rfl, hlh⟩ | ⟨rfl, rfl, hlh⟩ | ⟨rfl, rfl, rfl⟩
  all_goals
    go_enter Try.func8, Try.ntmps8
    go_wp2_with fail
    refine (awake_any _).mono ?_
    rintro e w1 ⟨rfl, b1⟩
    have HB1 := hide b1
    clear b1
    go_wp2_with fail
    refine (shaped (L := lay _) (by have := unhide HQ; omega) (PutUint_nil _ w1 hlo)).mono ?_
    rintro e w2 ⟨g2, N2, cc2, rfl, own2, b2⟩
    have HN2 := hide own2.at.1
    have HB2 := hide ((unhide HB1).trans (b2.mono (unhide HB1).size))
    clear own2 b2
    go_wp2_with fail
    refine (shaped (L := lay _) (by have := unhide HQ; omega) (PutUint_nil _ w2 hhi)).mono ?_
    rintro e w3 ⟨g3, N3, cc3, rfl, own3, b3⟩
    have HN3 := hide own3.at.1
    have HB3 := hide ((unhide HB2).trans (b3.mono (unhide HB2).size))
    obtain ⟨r1, r2, r3, r4, r5⟩ : N2 ≤ N3 ∧ 1 ≤ N2 ∧ N2 ≤ 10 ∧ 1 ≤ N3 ∧ N3 ≤ 10 := by
      have h1 := unhide HN2
      have h2 := unhide HN3
      have h3 := unhide HQ
      omega
    clear own3 b3 HN2 HN3
    have HR := hide (And.intro r1 (And.intro r2 r5))
    go_wp2_with fail
    go_loopw [10, 11] (fun u i wr => ∃ k : Nat, k ≤ T ∧ i = .int .i64 k ∧ Sl wr u (laidT (ss.take k)) ∧ Below w.heap.size w wr) (fun _ i _ => 30 - (intOf i).toNat)
    case atStart => exact ⟨0, by omega, rfl, nil_sl _, unhide HB3⟩
    case round =>
      obtain ⟨k, hk, rfl, hsl, hbel⟩ := hrel
      have HSL := hide hsl
      have HBL := hide hbel
      clear hsl hbel
      by_cases hkT : k < T
      · have hkn : k < ss.length := by have := unhide HN; omega
        obtain ⟨bb, off, rfl, hlt, hcell⟩ := unhide HC (by omega)
        have hck := ((unhide HBL).cell (p := ⟨bb, off + k, none⟩) hlt).trans (hcell k hkn)
        clear hcell
        obtain ⟨s, hse⟩ : ∃ s, s = ss[k] := ⟨_, rfl⟩
        rw [← hse] at hck
        have hsl := sumLen_at ss k hkn
        rw [← hse] at hsl
        have hbd := laidT_len (ss.take k)
        have hbd2 := sumLen_take ss k
        rw [List.length_take] at hbd
        have hS := unhide HS
        have HE : Hid (laidT (ss.take (k + 1)) = laidT (ss.take k) ++ layT s) := hide (by rw [List.take_succ_eq_append_getElem hkn, laidT_snoc, hse])
        have hkn' : k < n := by omega
        have HBD : Hid ((laidT (ss.take k)).length + 10 + s.length ≤ 140737488355328) := hide (by omega)
        clear hse hbd hbd2 hS hsl
        go_wp2_with fail
        refine (PutText_any _ (laidT (ss.take k)) s _ (unhide HSL) (unhide HBD)).mono ?_
        rintro e w5 ⟨v5, rfl, own5, b5⟩
        have R : Sl w5 v5 (laidT (ss.take (k + 1))) := by rw [unhide HE]; exact own5.sl
        have HRR := hide (And.intro R ((unhide HBL).trans (b5.mono (unhide HBL).size)))
        clear R own5 b5
        go_wp2
        go_roundw
        case rel => exact ⟨k + 1, by omega, by go_num, (unhide HRR).1, (unhide HRR).2⟩
        case measure => simp [intOf]; omega
      · obtain rfl : k = T := by omega
        have hk30 : k < n → ¬ k < 30 := by have := unhide HT; omega
        by_cases hkn : k < n
        all_goals
          go_wp2_with fail
          go_loopw [10, 12] (fun u i wr => ∃ j : Nat, j ≤ k ∧ i = .int .i64 j ∧ Sl wr u (laidT ((ss.take k).drop j)) ∧ Below w.heap.size w wr) (fun _ i _ => 30 - (intOf i).toNat)
          case atStart => exact ⟨0, by omega, rfl, unhide HSL, unhide HBL⟩
          case round =>
            clear HSL HBL
            obtain ⟨j, hj, rfl, hsl, hbel⟩ := hrel
            have HBL := hide hbel
            clear hbel
            by_cases hjk : j < k
            · have hjs : j < ss.length := by have := unhide HN; omega
              obtain ⟨bb, off, rfl, hlt, hcell⟩ := unhide HC (by omega)
              have hck := ((unhide HBL).cell (p := ⟨bb, off + j, none⟩) hlt).trans (hcell j hjs)
              clear hcell
              obtain ⟨s, hse⟩ : ∃ s, s = ss[j] := ⟨_, rfl⟩
              rw [← hse] at hck
              have hsum := sumLen_at ss j hjs
              rw [← hse] at hsum
              have hS := unhide HS
              have hsm : s.length ≤ 2000000 := by omega
              have hdr : (ss.take k).drop j = s :: (ss.take k).drop (j + 1) := by
                rw [List.drop_eq_getElem_cons (by simp; omega), List.getElem_take, hse]
              rw [hdr, laidT_cons] at hsl
              have hlt1 := layT_len s
              have hj30 : j < 30 := by omega
              have hjn : j < n := by omega
              clear hse hsum hS hdr
              obtain ⟨R, hR⟩ : ∃ R, R = laidT ((ss.take k).drop (j + 1)) := ⟨_, rfl⟩
              rw [← hR] at hsl
              have HRE := hide hR
              clear hR
              obtain ⟨m, hm⟩ : ∃ m, m = (layT s).length := ⟨_, rfl⟩
              have HPC : Hid (pcE (layT s ++ R) s.length = 0 ∧ pcK (layT s ++ R) s.length = m ∧ pcD (layT s ++ R) s.length = s) := hide (by rw [hm]; exact pc_layT s R (by omega))
              rcases hsl.cases with ⟨hnil, _⟩ | ⟨b5, o5, cap5, rfl, d1, d2, d3, hc5⟩
              · have := congrArg List.length hnil
                simp only [List.length_append, List.length_nil] at this
                omega
              · obtain ⟨N, hN⟩ : ∃ N, N = (layT s ++ R).length := ⟨_, rfl⟩
                rw [← hN] at d1 hsl ⊢
                have hNR : N = m + R.length := by rw [hN, hm]; simp
                have HSR : Hid (∀ (h : ¬ cap5 = m), Sl wr (.slice (some ⟨b5, o5 + m, none⟩) (N - m) (cap5 - m)) R) := hide (fun _ => by
                  have := Sl.from b5 o5 cap5 (layT s ++ R) d3 (by rw [← hN]; exact d1) d2 hc5 m (by rw [← hN]; omega)
                  rw [← hN, hm, List.drop_left] at this
                  rw [hm]; exact this)
                have HSR2 : Hid (∀ (h : cap5 = m), Sl wr (.slice (some ⟨b5, o5, none⟩) 0 0) R) := hide (fun h => by
                  have e0 : R = [] := List.eq_nil_of_length_eq_zero (by omega)
                  rw [e0]
                  exact Sl.mk b5 o5 0 [] d3 (by simp) (by omega) (fun i hi => by simp at hi))
                have HSL := hide hsl
                have hmN : m ≤ N := by omega
                clear hsl hc5 hN hNR hm hlt1
                have hself : (s == s) = true := beq_self_eq_true s
                by_cases hcap : cap5 = m
                · subst hcap
                  have HX := hide (unhide HSR2 rfl)
                  clear HSR HSR2
                  go_wp2_with fail
                  refine (Text_at _ (layT s ++ R) _ s cap5 _ (unhide HSL) (by omega) (by omega) (unhide HPC)).mono ?_
                  rintro e w6 ⟨rfl, rfl⟩
                  go_wp2
                  go_roundw
                  case rel => exact ⟨j + 1, by omega, by go_num, by rw [← unhide HRE]; exact unhide HX, unhide HBL⟩
                  case measure => simp [intOf]; omega
                · have HX := hide (unhide HSR hcap)
                  clear HSR HSR2
                  go_wp2_with fail
                  refine (Text_at _ (layT s ++ R) _ s m _ (unhide HSL) (by omega) (by omega) (unhide HPC)).mono ?_
                  rintro e w6 ⟨rfl, rfl⟩
                  go_wp2
                  go_roundw
                  case rel => exact ⟨j + 1, by omega, by go_num, by rw [← unhide HRE]; exact unhide HX, unhide HBL⟩
                  case measure => simp [intOf]; omega
            · obtain rfl : j = k := by omega
              rw [show (ss.take j).drop j = [] from List.drop_eq_nil_of_le (by simp; omega)] at hsl
              obtain ⟨ao5, cap5, rfl, d1, d2, d4⟩ := hsl
              clear d4
              go_wp2
              go_ret
              exact ⟨rfl, unhide HBL⟩

set_option maxHeartbeats 8000000 in
set_option maxRecDepth 100000 in
theorem Order.walk (a b : Nat) (v : Value) (ss : List (List UInt8)) (w : World) (ha : a ≤ 18446744073709551615) (hb : b ≤ 18446744073709551615) (hv : Ss w v ss) (hs : sumLen ss ≤ 2000000) :
    Calls Try.prog 8 #[.int .u64 a, .int .u64 b, v] w fun e w' => e = .returned (.bool true) ∧ Below w.heap.size w w' := by
  obtain ⟨lo, hi, hlo, hhi, hlh, hmn, hmx⟩ : ∃ lo hi : Nat, lo ≤ 18446744073709551615 ∧ hi ≤ 18446744073709551615 ∧ lo ≤ hi ∧ lo = min a b ∧ hi = max a b := ⟨min a b, max a b, by omega, by omega, by omega, rfl, rfl⟩
  obtain ⟨ao, cap, rfl, c1, c2, c4⟩ := hv
  have HC := hide c4
  clear c4
  obtain ⟨n, hn⟩ : ∃ n, n = ss.length := ⟨_, rfl⟩
  rw [← hn] at c1 ⊢
  have HN := hide hn
  have hm := lay_mono hlh
  have q1 := lay_len lo
  have q2 := lay_len hi
  have HQ := hide (And.intro hm (And.intro q1 q2))
  have HM := hide (And.intro hmn hmx)
  clear hn hm q1 q2 hmn hmx
  obtain ⟨T, hT⟩ : ∃ T, T = min n 30 := ⟨_, rfl⟩
  have HT := hide hT
  have hTn : T ≤ n := by omega
  have hT30 : T ≤ 30 := by omega
  clear hT
  exact Order.core a b lo hi ao cap n T ss w hlo hhi (by have := unhide HM; omega) c1 c2 hTn hT30 HC HN HQ HT hs

theorem str_data (s : ByteArray) : s = ⟨s.data.toList.toArray⟩ := by
  apply ByteArray.ext
  simp
theorem Try.cells9 : Try.prog.cellsOf 9 = 1 := by kernel_rfl
theorem bulk_strs {H : Type} : ∀ (l : List ByteArray), sumLen (l.map (fun s => s.data.toList)) ≤ Rows.uptoBulkAll (strs (H := H) l)
  | [] => by simp [sumLen]
  | s :: r => by
    have := bulk_strs (H := H) r
    simp only [sumLen, strs, List.map_cons, List.sum_cons, Rows.uptoBulkAll, Rows.uptoBulk] at *
    omega

theorem open_strs {H : Type} {enc : TypeId × Value → H} {W : World} {a : Option Addr} {n c : Nat} {d : DataW H} {p : List MemPlace}
    (h : DataW.Trod enc Try.prog W 0 (fun _ => true) true 49 (.slice a n c) d p) :
    ∃ ss : List (List UInt8), Ss W (.slice a n c) ss ∧ sumLen ss ≤ Rows.uptoBulk d := by
  obtain ⟨fuel, hf⟩ := h
  rcases open_strings Try.underlying49 Try.underlying9 Try.cells9 hf with ⟨hcs, hx⟩ | ⟨x, l, cp, ss, hcs, _, hl, hm, hz, hx, hcell, _⟩
  · simp [Value.cells] at hcs
    obtain ⟨rfl, rfl, rfl⟩ := hcs
    exact ⟨[], ⟨none, 0, rfl, by simp, by omega, fun h => absurd rfl h⟩, by simp [sumLen]⟩
  · simp [Value.cells] at hcs
    obtain ⟨rfl, rfl, rfl⟩ := hcs
    simp only [Prod.mk.injEq] at hx
    rw [if_pos rfl] at hz
    unfold maxLen at hm
    have hlen : ((ss.take n).map (fun s => s.data.toList)).length = n := by simp; omega
    refine ⟨(ss.take n).map (fun s => s.data.toList), ⟨some x, c, by rw [hlen], by rw [hlen]; exact hl, by omega, fun hc => ?_⟩, ?_⟩
    · rw [hlen] at hc
      have h0 := hcell 0 (by omega)
      have hsp := World.cell?_spot h0
      obtain ⟨b, off, sp⟩ := x
      have hsp' : sp = none := by
        cases sp with
        | none => rfl
        | some k => simp [Addr.add] at hsp
      subst hsp'
      refine ⟨b, off, rfl, ?_, fun i hi => ?_⟩
      · rw [addr_add] at h0
        exact World.block_lt_of_cell? W ⟨b, off + 0, none⟩ h0
      · have hi' : i < n := by rw [hlen] at hi; exact hi
        have := hcell i (by omega)
        rw [addr_add] at this
        rw [this]
        have e : ((ss.take n).map (fun s => s.data.toList))[i] = (ss.getD i ByteArray.empty).data.toList := by
          simp [List.getD_eq_getElem?_getD, List.getElem?_eq_getElem (show i < ss.length by omega)]
        rw [e, ← str_data]
    · rw [hx.1]
      have := bulk_strs (H := H) (ss.take n)
      simp only [Rows.uptoBulk]
      omega

set_option maxRecDepth 100000 in
theorem Order.contract (H : Type) (enc : TypeId × Value → H) (W : World) (base : Nat) (args : Array Value) (ds gs : List (DataW H)) (before : List MemPlace)
    (hval : ∀ (j : Nat) t v, Try.f8.params[j]? = some t → args[j]? = some v → Value.okWide Try.prog W .any base t v)
    (hW : DataW.Whole enc Try.prog Try.f8.params.toList Rows.codecOrderSpec.vars false W args.toList ds gs before) (hk : Rows.uptoSmall H (ds ++ gs) = true) :
    Calls Try.prog 8 args W fun e W' => ∃ v, e = .returned v ∧ Rows.codecOrderSpec.post enc Try.prog Try.f8 false true false false W args v W' := by
  have hW' := hW
  obtain ⟨p, q, hA0, hV, rfl, hfz, hnd⟩ := hW
  have hA : DataW.TrodAll enc Try.prog W 0 (fun _ => true) true Try.f8.params.toList args.toList ds p := hA0
  rw [Try.params8] at hA hval
  obtain ⟨v0, v1, v2, d0, d1, d2, p0, p1, p2, rfl, rfl, rfl, h0, h1, h2⟩ := trodAll_three hA
  obtain ⟨rfl, rfl⟩ := trodVars_none hV
  obtain ⟨x, rfl, rfl, rfl, wx⟩ := open_int Try.underlying48 (hval 0 48 v0 rfl rfl) h0
  obtain ⟨y, rfl, rfl, rfl, wy⟩ := open_int Try.underlying48 (hval 1 48 v1 rfl rfl) h1
  obtain ⟨a0, len0, cap0, rfl⟩ := okWide_slice Try.underlying49 (hval 2 49 v2 rfl rfl)
  have k2 := h2
  have lt2 : ∀ x ∈ p2, x.block < W.heap.size := by obtain ⟨m, hm⟩ := k2; exact DataW.trod_lt m _ _ _ hm
  obtain ⟨ss, hss, hsum⟩ := open_strs h2
  have bx := bounds_u64 wx
  have bys := bounds_u64 wy
  have hbound := of_decide_eq_true hk
  simp only [Rows.uptoBulkAll, List.append_nil] at hbound
  obtain ⟨n, rfl⟩ := Int.eq_ofNat_of_zero_le bx.1
  obtain ⟨m, rfl⟩ := Int.eq_ofNat_of_zero_le bys.1
  have key := Order.walk n m (.slice a0 len0 cap0) ss W (by omega) (by omega) hss (by omega)
  clear hA0
  refine key.mono fun e W' ⟨he, bel⟩ => ?_
  subst he
  exact ⟨_, rfl, _, _, _, [], _, [], hW', trodAll_mk1 (shut_bool Try.underlying4 _), (trodAll_cons_mk (shut_int Try.underlying48 wx) (trodAll_cons_mk (shut_int Try.underlying48 wy) (trodAll_cons_mk (Below.trod laid_out (by kernel_rfl) (of_decide_eq_true (by kernel_rfl)) k2 bel lt2) trodAll_mk0))), rfl, bel.frame _, fun h => by cases h⟩

set_option maxRecDepth 100000 in
theorem Order.lifted (os : Os) (started : os.Started) (H : Type) (enc : TypeId × Value → H) (F : Stop.Interp) :
    ReturnsInHanded {} Try.checked os 8 .any ((Rows.OpenSpec.upto Rows.codecOrderSpec).pre6 enc Try.prog Try.f8 Rows.codecOrderUptoRow.domain false) (((Rows.OpenSpec.upto Rows.codecOrderSpec).at F).post enc Try.prog Try.f8 false true false false) := by
  refine returnsInHanded_of_cond (C := Try.checked) (s := Rows.OpenSpec.upto Rows.codecOrderSpec) (k := Rows.uptoSmall) rfl own_knob started (by kernel_rfl) Try.func8
    (OpenSpec.witness (enc := enc) (C := Try.checked) (s := Rows.OpenSpec.upto Rows.codecOrderSpec) (k := Rows.uptoSmall) rfl false ⟨#[], #[.int .u64 0, .int .u64 0, .slice none 0 0], []⟩ 8 (by kernel_rfl) (by kernel_rfl) (by kernel_rfl)
      (x := ([.lit (.int .u64 0), .lit (.int .u64 0), .nil], [], [])) (by kernel_rfl) rfl (by kernel_rfl)) ?_
  intro W base args ds gs before hval hW _ hk _
  exact Order.contract H enc W base args ds gs before hval hW hk

theorem codecOrder_upto : Rows.CodecOrderUptoSaid :=
  OpenClaim.holds_of_cond 8 Try.f8 rfl rfl rfl rfl rfl rfl rfl ⟨rfl, rfl, rfl, rfl, rfl⟩ rfl rfl rfl rfl rfl (by kernel_rfl) Try.func8 (by kernel_rfl)
    (of_decide_eq_true (by kernel_rfl)) (by unfold Func.isWrapper; first | (rw [if_pos (by decide +kernel)]; kernel_rfl) | (rw [if_neg (by decide +kernel)]; exact ⟨rfl, rfl⟩))
    (fun os started H enc _ F => Order.lifted os started H enc F)
#print axioms codecOrder_upto
end Go.Proofs.Ytgnbokcganlbmab
