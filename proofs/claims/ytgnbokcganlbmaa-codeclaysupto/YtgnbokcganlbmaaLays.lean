/-
  CodecLays: for every slice of bytes, number, integer and text, together of bulk at most 1048576, it returns true, and its arguments read as before.
-/
import Derived.Test.YtgnbokcganlbmaaText
import Derived.Test.YtgnbokcganlbmaaMath3
import Derived.Test.YtgnbokcganlbmaaOpen
import Derived.JoinedCond
namespace Go.Proofs.Ytgnbokcganlbmaa
open Go.ChangeShapes Go.WideShapes Go.ChangeAt Go.RowKit
open Go.ChangeMaps (open_string shut_string)

theorem own_some {w : World} {base : Nat} {v : Value} {L : List UInt8} (h : Own w base v L) (hL : 1 ≤ L.length) : ∃ g cap, v = .slice (some ⟨g, 0, none⟩) L.length cap := by
  rcases h.2 with ⟨rfl, hz⟩ | ⟨g, cap, cur, rfl, _⟩
  · omega
  · exact ⟨g, cap, rfl⟩

theorem shaped {f : FuncId} {args : Array Value} {w : World} {L : List UInt8} (hL : 1 ≤ L.length)
    (h : Calls Try.prog f args w fun e w' => ∃ v', e = .returned v' ∧ Own w' w.heap.size v' L ∧ Below w.heap.size w w') :
    Calls Try.prog f args w fun e w' => ∃ g N cap, e = .returned (.slice (some ⟨g, 0, none⟩) N cap) ∧ Own w' w.heap.size (.slice (some ⟨g, 0, none⟩) N cap) L ∧ Below w.heap.size w w' := by
  refine h.mono ?_
  rintro e w' ⟨v', rfl, h1, h2⟩
  obtain ⟨g, cap, rfl⟩ := own_some h1 hL
  exact ⟨g, _, cap, rfl, h1, h2⟩

/-- What holds all the way: nothing old has turned, and what was lent is as it was. -/
def Inv (w w' : World) (g cap : Nat) (l : List UInt8) : Prop := Below w.heap.size w w' ∧ Lent w' w.heap.size (.slice (some ⟨g, 0, none⟩) l.length cap) l

theorem Inv.next {w w1 w2 : World} {g cap : Nat} {l : List UInt8} (h : Inv w w1 g cap l) (hb : Below w1.heap.size w1 w2) : Inv w w2 g cap l :=
  ⟨h.1.trans (hb.mono h.1.size), h.2.below hb (Nat.le_refl _)⟩

theorem layT_len (s : List UInt8) : 1 ≤ (layT s).length ∧ (layT s).length ≤ 10 + s.length := by
  have := lay_len s.length
  simp [layT]; omega
theorem pc_layT (s r : List UInt8) (hs : s.length < 18446744073709551616) : pcE (layT s ++ r) s.length = 0 ∧ pcK (layT s ++ r) s.length = (layT s).length ∧ pcD (layT s ++ r) s.length = s := by
  have hr : rd (layT s ++ r) = (s.length, (lay s.length).length, 0) := by
    unfold layT
    rw [List.append_assoc]
    exact rd_lay _ hs _
  have hE : pcE (layT s ++ r) s.length = 0 := by
    unfold pcE
    rw [hr]
    simp only
    rw [if_neg (by simp), if_neg (by omega), if_neg (by simp only [layT, List.length_append]; omega)]
  refine ⟨hE, ?_, ?_⟩
  · unfold pcK; rw [if_pos hE, hr]; simp [layT]
  · unfold pcD; rw [if_pos hE, hr]; simp [layT]

theorem Int_at (v : Value) (l : List UInt8) (i : Int) (k : Nat) (w : World) (hv : Sl w v l) (h : rdI l = i ∧ (rd l).2.1 = k ∧ (rd l).2.2 = 0) :
    Calls Try.prog 22 #[v] w fun e w' => e = .returned (.tuple #[.int .i64 i, .int .i64 k, .int .i64 0]) ∧ w = w' := by
  have := Int_any v l w hv
  rw [h.1, h.2.1, h.2.2] at this
  exact this
theorem int_back (i : Int) (h0 : -9223372036854775808 ≤ i) (h1 : i ≤ 9223372036854775807) (r : List UInt8) : rdI (lay (zig i) ++ r) = i ∧ (rd (lay (zig i) ++ r)).2.1 = (lay (zig i)).length ∧ (rd (lay (zig i) ++ r)).2.2 = 0 := by
  have := rd_lay (zig i) (zig_lt i h0 h1) r
  unfold rdI
  rw [this]
  exact ⟨by rw [if_pos rfl]; exact unz_zig i, rfl, rfl⟩
theorem Text_at (v : Value) (l : List UInt8) (most : Int) (s : List UInt8) (k : Nat) (w : World) (hv : Sl w v l) (hm0 : -9223372036854775808 ≤ most) (hm : most ≤ 9223372036854775807) (h : pcE l most = 0 ∧ pcK l most = k ∧ pcD l most = s) :
    Calls Try.prog 23 #[v, .int .i64 most] w fun e w' => e = .returned (.tuple #[.string ⟨s.toArray⟩, .int .i64 k, .int .i64 0]) ∧ w = w' := by
  have := Text_any v l most w hv hm0 hm
  rw [h.1, h.2.1, h.2.2] at this
  exact this

set_option maxHeartbeats 8000000 in
set_option maxRecDepth 100000 in
theorem Lays.walk (v : Value) (l : List UInt8) (n : Nat) (i : Int) (s : List UInt8) (w : World) (hv : Sl w v l) (hl : l.length ≤ 2000000) (hn : n ≤ 18446744073709551615) (hi0 : -9223372036854775808 ≤ i) (hi1 : i ≤ 9223372036854775807) (hs : s.length ≤ 2000000) :
    Calls Try.prog 3 #[v, .int .u64 n, .int .i64 i, .string ⟨s.toArray⟩] w fun e w' => e = .returned (.bool true) ∧ Below w.heap.size w w' := by
  have q1 := lay_len n
  have q2 := lay_len (zig i)
  have q3 := layT_len s
  have HQ := hide (And.intro q1 (And.intro q2 q3))
  have HV := hide hv
  clear q1 q2 q3 hv
  have hul : (n : Int) % 4294967296 = ((n % 4294967296 : Nat) : Int) := by omega
  obtain ⟨u, hu⟩ : ∃ u, u = n % 4294967296 := ⟨_, rfl⟩
  have hu4 : u < 4294967296 := by omega
  rw [← hu] at hul
  clear hu
  go_enter Try.func3, Try.ntmps3
  go_wp2_with fail
  refine (awake_any _).mono ?_
  rintro e w1 ⟨rfl, b1⟩
  have HB1 := hide b1
  clear b1
  go_wp2_with fail
  refine (lent_any _ l _ ((unhide HV).below (unhide HB1) (Nat.le_refl _)) (by omega)).mono ?_
  rintro e w2 ⟨g, cap, rfl, hL, b2⟩
  have I2 : Hid (Inv w w2 g cap l) := hide ⟨(unhide HB1).trans (b2.mono (unhide HB1).size), by obtain ⟨g', c', e, h1, h2⟩ := hL; cases e; exact ⟨g, cap, rfl, h1, h2.mono (unhide HB1).size⟩⟩
  clear hL b2
  -- numbers
  go_wp2_with fail
  refine (shaped (L := l ++ lay n) (by have := (unhide HQ).1; simp; omega) (PutUint_any _ l n _ (unhide I2).2.sl hn (by omega))).mono ?_
  rintro e w3 ⟨g3, N3, c3, rfl, own3, b3⟩
  have HO3 := hide own3
  have HB3 := hide b3
  clear own3 b3
  go_wp2_with fail
  refine (rPutUint_at _ n _ hn rfl).mono ?_
  rintro e w4 ⟨v4, rfl, own4, b4⟩
  have HO4 := hide own4
  have HB4 := hide b4
  clear own4 b4
  go_wp2_with fail
  refine (behind_any w2.heap.size g3 N3 c3 _ v4 l (lay n) _ ((unhide HO3).below (unhide HB4) (Nat.le_refl _)) ((unhide HV).below ((unhide I2).next (unhide HB3)).1 (Nat.le_refl _) |>.below (unhide HB4) (Nat.le_refl _)) (unhide HO4).sl (by have := (unhide HQ).1; omega)).mono ?_
  rintro e w5 ⟨rfl, b5⟩
  have I5 := hide ((unhide I2).next (((unhide HB3).trans ((unhide HB4).mono (unhide HB3).size)).trans b5))
  clear b5 HO3 HB3 HO4 HB4 I2
  -- integers
  go_wp2_with fail
  refine (shaped (L := l ++ lay (zig i)) (by have := (unhide HQ).2.1; simp; omega) (PutInt_any _ l i _ (unhide I5).2.sl hi0 hi1 (by omega))).mono ?_
  rintro e w6 ⟨g6, N6, c6, rfl, own6, b6⟩
  have HO6 := hide own6
  have HB6 := hide b6
  clear own6 b6
  go_wp2_with fail
  refine (rPutInt_any i _ hi0 hi1).mono ?_
  rintro e w7 ⟨v7, rfl, own7, b7⟩
  have HO7 := hide own7
  have HB7 := hide b7
  clear own7 b7
  go_wp2_with fail
  refine (behind_any w5.heap.size g6 N6 c6 _ v7 l (lay (zig i)) _ ((unhide HO6).below (unhide HB7) (Nat.le_refl _)) ((unhide HV).below ((unhide I5).next (unhide HB6)).1 (Nat.le_refl _) |>.below (unhide HB7) (Nat.le_refl _)) (unhide HO7).sl (by have := (unhide HQ).2.1; omega)).mono ?_
  rintro e w8 ⟨rfl, b8⟩
  have I8 := hide ((unhide I5).next (((unhide HB6).trans ((unhide HB7).mono (unhide HB6).size)).trans b8))
  clear b8 HO6 HB6 HO7 HB7 I5
  -- texts
  go_wp2_with fail
  refine (shaped (L := l ++ layT s) (by have := (unhide HQ).2.2; simp; omega) (PutText_any _ l s _ (unhide I8).2.sl (by omega))).mono ?_
  rintro e w9 ⟨g9, N9, c9, rfl, own9, b9⟩
  have HO9 := hide own9
  have HB9 := hide b9
  clear own9 b9
  go_wp2_with fail
  refine (rPutText_any s _ (by omega)).mono ?_
  rintro e w10 ⟨v10, rfl, own10, b10⟩
  have HO10 := hide own10
  have HB10 := hide b10
  clear own10 b10
  go_wp2_with fail
  refine (behind_any w8.heap.size g9 N9 c9 _ v10 l (layT s) _ ((unhide HO9).below (unhide HB10) (Nat.le_refl _)) ((unhide HV).below ((unhide I8).next (unhide HB9)).1 (Nat.le_refl _) |>.below (unhide HB10) (Nat.le_refl _)) (unhide HO10).sl (by have := (unhide HQ).2.2; omega)).mono ?_
  rintro e w11 ⟨rfl, b11⟩
  have I11 := hide ((unhide I8).next (((unhide HB9).trans ((unhide HB10).mono (unhide HB9).size)).trans b11))
  clear b11 HO9 HB9 HO10 HB10 I8
  -- four bytes
  go_wp2_with fail
  refine (shaped (L := l ++ le4 u) (by simp [le4]) (Put32_any _ l _ u _ (unhide I11).2.sl hu4 rfl (by omega))).mono ?_
  rintro e w12 ⟨g12, N12, c12, rfl, own12, b12⟩
  have HO12 := hide own12
  have HB12 := hide b12
  clear own12 b12
  go_wp2_with fail
  refine (rPut32_any _ u _ hu4 rfl).mono ?_
  rintro e w13 ⟨v13, rfl, own13, b13⟩
  have HO13 := hide own13
  have HB13 := hide b13
  clear own13 b13
  go_wp2_with fail
  refine (behind_any w11.heap.size g12 N12 c12 _ v13 l (le4 u) _ ((unhide HO12).below (unhide HB13) (Nat.le_refl _)) ((unhide HV).below ((unhide I11).next (unhide HB12)).1 (Nat.le_refl _) |>.below (unhide HB13) (Nat.le_refl _)) (unhide HO13).sl (by simp [le4]; omega)).mono ?_
  rintro e w14 ⟨rfl, b14⟩
  have I14 := hide ((unhide I11).next (((unhide HB12).trans ((unhide HB13).mono (unhide HB12).size)).trans b14))
  clear b14 HO12 HB12 HO13 HB13 I11
  -- still
  go_wp2_with fail
  refine (held_any _ _ _ l _ (unhide I14).2 ((unhide HV).below (unhide I14).1 (Nat.le_refl _))).mono ?_
  rintro e w15 ⟨rfl, rfl⟩
  obtain ⟨k1, hk1⟩ : ∃ k, k = (lay n).length := ⟨_, rfl⟩
  obtain ⟨k2, hk2⟩ : ∃ k, k = (lay (zig i)).length := ⟨_, rfl⟩
  obtain ⟨k3, hk3⟩ : ∃ k, k = (layT s).length := ⟨_, rfl⟩
  have HK1 := hide hk1
  have HK2 := hide hk2
  have HK3 := hide hk3
  clear hk1 hk2 hk3
  go_wp2_with fail
  refine (PutUint_any _ [] n _ (nil_sl _) hn (by simp)).mono ?_
  rintro e w15 ⟨v15, rfl, own15, b15⟩
  rw [List.nil_append] at own15
  have HO15 := hide own15
  have HB15 := hide b15
  have z15 := b15.size
  clear own15 b15
  go_wp2_with (at_builtin; refine wpList_append_mine rfl (.tmp 68) (.tmp 69) rfl w14.heap.size _ (lay n) rfl (unhide HO15) _ l rfl ((unhide HV).below ((unhide I14).next (unhide HB15)).1 (Nat.le_refl _)) ?hlen14 ?hbase14 ?_)
  case hlen14 => have := unhide HQ; have h4 : (le4 u).length = 4 := rfl; omega
  case hbase14 => omega
  intro v16 w16 own16 b16
  have HO16 := hide own16
  have I16 := hide ((unhide I14).next ((unhide HB15).trans b16))
  clear own16 b16 HO15 HB15 I14 z15
  go_wp2_with fail
  refine (Uint_at _ (lay n ++ l) n k1 0 _ (unhide HO16).sl (by rw [unhide HK1]; exact rd_lay n (by omega) l)).mono ?_
  rintro e w17 ⟨rfl, rfl⟩
  go_wp2_with fail
  refine (PutInt_any _ [] i _ (nil_sl _) hi0 hi1 (by simp)).mono ?_
  rintro e w17 ⟨v17, rfl, own17, b17⟩
  rw [List.nil_append] at own17
  have HO17 := hide own17
  have HB17 := hide b17
  have z17 := b17.size
  clear own17 b17
  go_wp2_with (at_builtin; refine wpList_append_mine rfl (.tmp 77) (.tmp 78) rfl w16.heap.size _ (lay (zig i)) rfl (unhide HO17) _ l rfl ((unhide HV).below ((unhide I16).next (unhide HB17)).1 (Nat.le_refl _)) ?hlen16 ?hbase16 ?_)
  case hlen16 => have := unhide HQ; have h4 : (le4 u).length = 4 := rfl; omega
  case hbase16 => omega
  intro v18 w18 own18 b18
  have HO18 := hide own18
  have I18 := hide ((unhide I16).next ((unhide HB17).trans b18))
  clear own18 b18 HO17 HB17 I16 z17
  go_wp2_with fail
  refine (Int_at _ (lay (zig i) ++ l) i k2 _ (unhide HO18).sl (by rw [unhide HK2]; exact int_back i hi0 hi1 l)).mono ?_
  rintro e w19 ⟨rfl, rfl⟩
  go_wp2_with fail
  refine (PutText_any _ [] s _ (nil_sl _) (by simp; omega)).mono ?_
  rintro e w19 ⟨v19, rfl, own19, b19⟩
  rw [List.nil_append] at own19
  have HO19 := hide own19
  have HB19 := hide b19
  have z19 := b19.size
  clear own19 b19
  go_wp2_with (at_builtin; refine wpList_append_mine rfl (.tmp 86) (.tmp 87) rfl w18.heap.size _ (layT s) rfl (unhide HO19) _ l rfl ((unhide HV).below ((unhide I18).next (unhide HB19)).1 (Nat.le_refl _)) ?hlen18 ?hbase18 ?_)
  case hlen18 => have := unhide HQ; have h4 : (le4 u).length = 4 := rfl; omega
  case hbase18 => omega
  intro v20 w20 own20 b20
  have HO20 := hide own20
  have I20 := hide ((unhide I18).next ((unhide HB19).trans b20))
  clear own20 b20 HO19 HB19 I18 z19
  go_wp2_with fail
  refine (Text_at _ (layT s ++ l) _ s k3 _ (unhide HO20).sl (by omega) (by omega) ?hpc).mono ?_
  case hpc => rw [unhide HK3]; exact pc_layT s l (by omega)
  rintro e w21 ⟨rfl, rfl⟩
  go_wp2_with fail
  refine (Put32_any _ [] _ u _ (nil_sl _) hu4 rfl (by simp)).mono ?_
  rintro e w21 ⟨v21, rfl, own21, b21⟩
  rw [List.nil_append] at own21
  have HO21 := hide own21
  have HB21 := hide b21
  have z21 := b21.size
  clear own21 b21
  go_wp2_with (at_builtin; refine wpList_append_mine rfl (.tmp 99) (.tmp 100) rfl w20.heap.size _ (le4 u) rfl (unhide HO21) _ l rfl ((unhide HV).below ((unhide I20).next (unhide HB21)).1 (Nat.le_refl _)) ?hlen20 ?hbase20 ?_)
  case hlen20 => have := unhide HQ; have h4 : (le4 u).length = 4 := rfl; omega
  case hbase20 => omega
  intro v22 w22 own22 b22
  have HO22 := hide own22
  have I22 := hide ((unhide I20).next ((unhide HB21).trans b22))
  clear own22 b22 HO21 HB21 I20 z21
  go_wp2_with fail
  refine (U32_at _ (le4 u ++ l) _ (unhide HO22).sl (by simp [le4])).mono ?_
  rintro e w23 ⟨rfl, b23⟩
  rw [rd4_le4 u hu4 l]
  have I23 := hide ((unhide I22).next (b23 _))
  clear b23 I22
  have hself : (s == s) = true := beq_self_eq_true s
  go_wp2_with fail
  refine (shaped (L := lay n) (by have := unhide HQ; omega) (rPutUint_at _ n _ hn rfl)).mono ?_
  rintro e w24 ⟨g24, N24, c24, rfl, own24, b24⟩
  obtain rfl : N24 = k1 := own24.at.1.trans (unhide HK1).symm
  have I24 := hide ((unhide I23).next b24)
  clear own24 b24 I23
  go_wp2_with fail
  refine (shaped (L := lay (zig i)) (by have := unhide HQ; omega) (rPutInt_any i _ hi0 hi1)).mono ?_
  rintro e w25 ⟨g25, N25, c25, rfl, own25, b25⟩
  obtain rfl : N25 = k2 := own25.at.1.trans (unhide HK2).symm
  have I25 := hide ((unhide I24).next b25)
  clear own25 b25 I24
  go_wp2_with fail
  refine (shaped (L := layT s) (by have := unhide HQ; omega) (rPutText_any s _ (by omega))).mono ?_
  rintro e w26 ⟨g26, N26, c26, rfl, own26, b26⟩
  obtain rfl : N26 = k3 := own26.at.1.trans (unhide HK3).symm
  have I26 := hide ((unhide I25).next b26)
  clear own26 b26 I25
  go_wp2
  go_ret
  exact ⟨rfl, (unhide I26).1⟩

theorem bulkAll_len {H : Type} : ∀ (l : List (DataW H)), l.length ≤ Rows.uptoBulkAll l
  | [] => by simp
  | d :: r => by
    have h1 : 1 ≤ Rows.uptoBulk d := by
      cases d with
      | lit l => cases l <;> simp [Rows.uptoBulk]
      | nil => simp [Rows.uptoBulk]
      | ptr d => simp [Rows.uptoBulk]
      | slice elems spare => simp [Rows.uptoBulk]
      | agg parts => simp [Rows.uptoBulk]
      | iface t d => simp [Rows.uptoBulk]
      | map entries => simp [Rows.uptoBulk]
      | held h => simp [Rows.uptoBulk]
    have := bulkAll_len r
    simp only [Rows.uptoBulkAll, List.length_cons]; omega

theorem str_data (s : ByteArray) : s = ⟨s.data.toList.toArray⟩ := by
  apply ByteArray.ext
  simp

theorem Lays.contract (H : Type) (enc : TypeId × Value → H) (W : World) (base : Nat) (args : Array Value) (ds gs : List (DataW H)) (before : List MemPlace)
    (hval : ∀ (j : Nat) t v, Try.f3.params[j]? = some t → args[j]? = some v → Value.okWide Try.prog W .any base t v)
    (hW : DataW.Whole enc Try.prog Try.f3.params.toList Rows.codecLaysSpec.vars false W args.toList ds gs before) (hk : Rows.uptoSmall H (ds ++ gs) = true) :
    Calls Try.prog 3 args W fun e W' => ∃ v, e = .returned v ∧ Rows.codecLaysSpec.post enc Try.prog Try.f3 false true false false W args v W' := by
  have hW' := hW
  obtain ⟨p, q, hA0, hV, rfl, hfz, hnd⟩ := hW
  have hA : DataW.TrodAll enc Try.prog W 0 (fun _ => true) true Try.f3.params.toList args.toList ds p := hA0
  rw [Try.params3] at hA hval
  obtain ⟨v0, v1, v2, v3, d0, d1, d2, d3, p0, p1, p2, p3, rfl, rfl, rfl, h0, h1, h2, h3⟩ := trodAll_four hA
  obtain ⟨rfl, rfl⟩ := trodVars_none hV
  obtain ⟨a0, len0, cap0, rfl⟩ := okWide_slice Try.underlying22 (hval 0 22 v0 rfl rfl)
  have k0 := h0
  have lt0 : ∀ x ∈ p0, x.block < W.heap.size := by obtain ⟨m, hm⟩ := k0; exact DataW.trod_lt m _ _ _ hm
  obtain ⟨l, hl, hd⟩ := open_bytes h0
  obtain ⟨x, rfl, rfl, rfl, wx⟩ := open_int Try.underlying23 (hval 1 23 v1 rfl rfl) h1
  obtain ⟨y, rfl, rfl, rfl, wy⟩ := open_int Try.underlying3 (hval 2 3 v2 rfl rfl) h2
  obtain ⟨s, rfl, rfl, rfl, hs⟩ := open_string Try.underlying9 (hval 3 9 v3 rfl rfl) h3
  have bx := bounds_u64 wx
  have bys := bounds_i64 wy
  have hbound := of_decide_eq_true hk
  simp only [Rows.uptoBulkAll, Rows.uptoBulk, List.append_nil] at hbound
  have hlen : l.length ≤ 2000000 := by
    rcases hd with ⟨_, rfl⟩ | ⟨es, sp, rfl, h⟩
    · simp
    · have e1 := bulkAll_len es
      have e2 := bulkAll_len sp
      simp only [Rows.uptoBulk] at hbound
      omega
  obtain ⟨n, rfl⟩ := Int.eq_ofNat_of_zero_le bx.1
  have key := Lays.walk (.slice a0 len0 cap0) l n y s.data.toList W hl hlen (by omega) (by omega) (by omega) (by omega)
  rw [← str_data s] at key
  clear hA0
  refine key.mono fun e W' ⟨he, bel⟩ => ?_
  subst he
  exact ⟨_, rfl, _, _, _, [], _, [], hW', trodAll_mk1 (shut_bool Try.underlying4 _), (trodAll_cons_mk (Below.trod laid_out (by kernel_rfl) (of_decide_eq_true (by kernel_rfl)) k0 bel lt0) (trodAll_cons_mk (shut_int Try.underlying23 wx) (trodAll_cons_mk (shut_int Try.underlying3 wy) (trodAll_cons_mk (shut_string Try.underlying9 hs) trodAll_mk0)))), rfl, bel.frame _, fun h => by cases h⟩

set_option maxRecDepth 100000 in
theorem Lays.lifted (os : Os) (started : os.Started) (H : Type) (enc : TypeId × Value → H) (F : Stop.Interp) :
    ReturnsInHanded {} Try.checked os 3 .any ((Rows.OpenSpec.upto Rows.codecLaysSpec).pre6 enc Try.prog Try.f3 Rows.codecLaysUptoRow.domain false) (((Rows.OpenSpec.upto Rows.codecLaysSpec).at F).post enc Try.prog Try.f3 false true false false) := by
  refine returnsInHanded_of_cond (C := Try.checked) (s := Rows.OpenSpec.upto Rows.codecLaysSpec) (k := Rows.uptoSmall) rfl own_knob started (by kernel_rfl) Try.func3
    (OpenSpec.witness (enc := enc) (C := Try.checked) (s := Rows.OpenSpec.upto Rows.codecLaysSpec) (k := Rows.uptoSmall) rfl false ⟨#[], #[.slice none 0 0, .int .u64 0, .int .i64 0, .string ⟨#[]⟩], []⟩ 8 (by kernel_rfl) (by kernel_rfl) (by kernel_rfl)
      (x := ([.nil, .lit (.int .u64 0), .lit (.int .i64 0), .lit (.string [])], [], [])) (by kernel_rfl) rfl (by kernel_rfl)) ?_
  intro W base args ds gs before hval hW _ hk _
  exact Lays.contract H enc W base args ds gs before hval hW hk

theorem codecLays_upto : Rows.CodecLaysUptoSaid :=
  OpenClaim.holds_of_cond 3 Try.f3 rfl rfl rfl rfl rfl rfl rfl ⟨rfl, rfl, rfl, rfl, rfl⟩ rfl rfl rfl rfl rfl (by kernel_rfl) Try.func3 (by kernel_rfl)
    (of_decide_eq_true (by kernel_rfl)) (by unfold Func.isWrapper; first | (rw [if_pos (by decide +kernel)]; kernel_rfl) | (rw [if_neg (by decide +kernel)]; exact ⟨rfl, rfl⟩))
    (fun os started H enc _ F => Lays.lifted os started H enc F)
#print axioms codecLays_upto
end Go.Proofs.Ytgnbokcganlbmaa
