/-
  DERIVED. The walk of the document's Scan.
-/
import Derived.Test.YtoclnnkeabbicaaScan
import Derived.Test.YtoclnnkeabbicaaRefFrame2
namespace Go.Proofs.Ytoclnnkeabbicaa
open Go.RowKit
set_option linter.unusedVariables false

set_option maxHeartbeats 4000000 in
set_option maxRecDepth 100000 in
theorem rScan_some (b off cap : Nat) (l : List UInt8) (w : World) (hb : b < w.heap.size) (h1 : l.length ≤ cap) (h2 : cap ≤ 9223372036854775807) (hl : l.length ≤ 1099511627776)
    (hc : ∀ i, (h : i < l.length) → w.cell? ⟨b, off + i, none⟩ = some (bv l[i])) :
    Calls Try.prog 28 #[.slice (some ⟨b, off, none⟩) l.length cap] w fun e w' => ∃ v', e = .returned (.tuple #[v', .int .i64 (scanL l).2]) ∧ FOwn true w' 0 w.heap.size v' (scanL l).1 ∧ Below w.heap.size w w' := by
  have HC := hide hc
  clear hc
  go_enter Try.func28, Try.ntmps28
  go_wp2_with fail
  have HR0 : Hid (scanL l = ([] ++ (scanL (l.drop 0)).1, 0 + (scanL (l.drop 0)).2)) := hide (by simp)
  go_loopw [4, 5, 6, 7, 8] (fun fr at_ _ _ _ wr => ∃ (k : Nat) (fs : List (UInt8 × List UInt8)), k ≤ l.length ∧ at_ = .int .i64 k ∧ fs.length ≤ k ∧ Hid (scanL l = (fs ++ (scanL (l.drop k)).1, k + (scanL (l.drop k)).2)) ∧ FOwn true wr 0 w.heap.size fr fs ∧ Below w.heap.size w wr) (fun _ at_ _ _ _ _ => l.length - (intOf at_).toNat)
  case atStart => exact ⟨0, [], by omega, rfl, by simp, HR0, FOwn.nil _ _ _ _, Below.refl _ _⟩
  case round =>
    obtain ⟨k, fs, hk, rfl, hfk, HR, hown, hbel⟩ := hrel
    have hsw := hbel.size
    have HSl := (Sl.rest (w := wr) (b := b) (off := off) (cap := cap) (l := l) (by omega) h1 h2 (fun i hi => (hbel.cell (p := ⟨b, off + i, none⟩) hb).trans (unhide HC i hi)) k hk)
    have HO := hide hown
    have HBr := hide hbel
    clear hown hbel HR0
    by_cases hck : cap = k
    · rw [if_pos hck] at HSl
      subst hck
      have e6 : l.drop cap = [] := List.drop_eq_nil_of_le (by omega)
      rw [Nat.sub_self, show l.length - cap = 0 by omega, e6] at HSl
      have hsb := scan_bad (frE_short (l := []) (by decide))
      have HR2 : Hid (scanL l = (fs, cap)) := hide (by rw [unhide HR, e6, hsb]; simp)
      have HS := hide HSl
      clear HSl e6 hsb HR
      go_wp2_with fail
      refine (rFrame_any _ [] wr (unhide HS)).mono ?_
      rintro e w4 ⟨a4, n4, c4, rfl, own4, b4⟩
      have hE : frE [] = 10 := by decide +kernel
      rw [hE]
      have HBb := hide (((unhide HBr).trans (b4.mono hsw)))
      have HO4 := hide ((unhide HO).below b4 (Nat.le_refl _))
      have s4 := b4.size
      clear own4 b4 hE
      go_wp2
      go_ret2
      rw [unhide HR2]
      refine ⟨_, rfl, ((unhide HO4).below ((Below.refl w4.heap.size w4).alloc (Nat.le_refl _) _) (Nat.le_refl _)), ?_⟩
      exact (unhide HBb).alloc (by omega) _
    · rw [if_neg hck] at HSl
      have HS := hide HSl
      obtain ⟨E, hE⟩ : ∃ E, frE (l.drop k) = E := ⟨_, rfl⟩
      obtain ⟨K, hK⟩ : ∃ K, frK (l.drop k) = K := ⟨_, rfl⟩
      obtain ⟨kd, hkd⟩ : ∃ kd, frKind (l.drop k) = kd := ⟨_, rfl⟩
      obtain ⟨d, hd⟩ : ∃ d, frD (l.drop k) = d := ⟨_, rfl⟩
      have HP := hide (And.intro hE (And.intro hK (And.intro hkd hd)))
      clear HSl hE hK hkd hd
      go_wp2_with fail
      refine (rFrame_any _ (l.drop k) wr (unhide HS)).mono ?_
      rintro e w4 ⟨a4, n4, c4, rfl, own4, b4⟩
      rw [(unhide HP).1, (unhide HP).2.1, (unhide HP).2.2.1]
      rw [(unhide HP).2.2.2] at own4
      have HBb := hide (((unhide HBr).trans (b4.mono hsw)))
      have HO4 := hide ((unhide HO).below b4 (Nat.le_refl _))
      have s4 := b4.size
      have HN := hide own4
      clear own4 b4
      by_cases h0 : E = 0
      · subst h0
        have hpos := fr_pos (unhide HP).1
        rw [(unhide HP).2.1, List.length_drop] at hpos
        have HR2 : Hid (scanL l = ((fs ++ [(kd, d)]) ++ (scanL (l.drop (k + K))).1, k + K + (scanL (l.drop (k + K))).2)) := hide (by
          have := scan_good (unhide HP).1
          rw [(unhide HP).2.1, (unhide HP).2.2.1, (unhide HP).2.2.2, List.drop_drop] at this
          rw [unhide HR, this]
          simp
          omega)
        clear HR
        have HA2 := hide (fun o o' => (((Below.refl w4.heap.size w4).alloc (Nat.le_refl _) o).alloc (by simp) o'))
        have HO5 := hide (fun o o' => (unhide HO4).below (unhide HA2 o o') (Nat.le_refl _))
        have HN5 := hide (fun o o' => Safe.of_new (base := 0) (NewSl.below (unhide HN) (unhide HA2 o o') (Nat.le_refl _)))
        go_wp2_with (at_builtin; refine wpList_append_frame (own := true) rfl (.tmp 21) (.tmp 23) rfl 0 w.heap.size (Nat.zero_le _) _ fs rfl (unhide HO5 _ _) _ kd a4 n4 c4 d rfl ?h0 ?h1 (unhide HN5 _ _) ?hlen ?hbase ?_)
        case h0 => simp
        case h1 => simp
        case hlen => omega
        case hbase => simp; omega
        intro v6 w6 own6 b6 _
        have HO6 := hide own6
        have HB6 := hide (((unhide HBb).trans ((unhide HA2 _ _).mono (by omega))).trans b6)
        clear own6 b6
        go_wp2
        go_roundw
        case rel => exact ⟨k + K, fs ++ [(kd, d)], by omega, by go_num, by simp; omega, HR2, unhide HO6, unhide HB6⟩
        case measure => simp [intOf]; omega
      · have hne : ((E : Int) != 0) = true := by rw [bne_iff_ne]; omega
        have HR2 : Hid (scanL l = (fs, k)) := hide (by rw [unhide HR, scan_bad (by rw [(unhide HP).1]; exact h0)]; simp)
        clear h0 HR
        go_wp2
        go_ret2
        rw [unhide HR2]
        refine ⟨_, rfl, ((unhide HO4).below ((Below.refl w4.heap.size w4).alloc (Nat.le_refl _) _) (Nat.le_refl _)), ?_⟩
        exact (unhide HBb).alloc (by omega) _
set_option maxHeartbeats 4000000 in
set_option maxRecDepth 100000 in
theorem rScan_none (ao : Option Addr) (w : World) :
    Calls Try.prog 28 #[.slice ao 0 0] w fun e w' => e = .returned (.tuple #[.slice none 0 0, .int .i64 0]) ∧ Below w.heap.size w w' := by
  have HZ : Sl w (.slice ao 0 0) [] := ⟨ao, 0, rfl, by simp, by simp [maxLen], fun h => absurd rfl h⟩
  have HHZ := hide HZ
  clear HZ
  have hE : frE [] = 10 := by decide +kernel
  have HE := hide hE
  clear hE
  cases ao
  all_goals
    go_enter Try.func28, Try.ntmps28
    go_wp2_with fail
    refine wp_loop_rounds 1 ?_
    rw [rounds_succ]
    go_wp2_with fail
    refine (rFrame_any _ [] w (unhide HHZ)).mono ?_
    rintro e w4 ⟨a4, n4, c4, rfl, own4, b4⟩
    rw [unhide HE]
    have s4 := b4.size
    have HW4 := hide b4
    clear own4 b4
    go_wp2
    go_ret2
    exact ⟨rfl, (unhide HW4).alloc (by omega) _⟩

/-- The document's Scan. -/
theorem rScan_any (v : Value) (l : List UInt8) (w : World) (hv : Sl w v l) (hl : l.length ≤ 1099511627776) :
    Calls Try.prog 28 #[v] w fun e w' => ∃ v', e = .returned (.tuple #[v', .int .i64 (scanL l).2]) ∧ FOwn true w' 0 w.heap.size v' (scanL l).1 ∧ Below w.heap.size w w' := by
  rcases hv.cases with ⟨rfl, ao, rfl⟩ | ⟨b, off, cap, rfl, h1, h2, h3, hc⟩
  · refine (rScan_none ao w).mono ?_
    rintro e w' ⟨rfl, hb⟩
    have := scan_bad (frE_short (l := []) (by decide))
    rw [this]
    exact ⟨_, rfl, FOwn.nil _ _ _ _, hb⟩
  · exact rScan_some b off cap l w h3 h1 h2 hl hc
end Go.Proofs.Ytoclnnkeabbicaa
