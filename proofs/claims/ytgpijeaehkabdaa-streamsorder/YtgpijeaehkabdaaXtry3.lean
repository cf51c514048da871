/-
  DERIVED. The state's try, all cases.
-/
import Derived.Test.YtgpijeaehkabdaaXtry
import Derived.Test.YtgpijeaehkabdaaXtry1
import Derived.Test.YtgpijeaehkabdaaXtry2
namespace Go.Proofs.Ytgpijeaehkabdaa
open Go.RowKit Go.Maps
set_option linter.unusedVariables false

theorem try_go {w : World} {F : Nat → Prop} {st mp mk N : Nat} {I : Ix} {xs : List (Ent × Nat)} {av : Value} {pf : List UInt8 → Value} {D1 D2 : DataW Value} (h : IxIn w F st mp mk N I xs av pf D1 D2) (a : Option Addr) (n c : Nat) (ha : av = .slice a n c) (s : List UInt8) (hs : s.length ≤ maxLen) (x : Int) (k : List UInt8) (hk : k.length ≤ maxLen) (ea : Option Addr) (en ec : Nat) (es : List Evn) (hv : EvL w (.slice ea en ec) es) (hfit : ∀ e ∈ es, fitE e) :
    Calls Try.prog 24 #[.agg (stV (.slice a n c) (some mp) (some mk)), sv s, .int .i64 x, sv k, .slice ea en ec] w (TrPost (tryA I s x k es) w) := by
  unfold tryA
  by_cases hn : okNames s k
  · rw [if_neg (fun h' => h' hn)]
    cases hky : I.key k with
    | none =>
      simp only []
      by_cases hev : okEvs es
      · rw [if_neg (fun h' => h' hev)]
        by_cases hx : x < -1
        · rw [if_pos hx]
          exact try_arg h a n c ha s hs x k hk ea en ec es hv hfit hn hky hev hx
        · rw [if_neg hx]
          by_cases hx1 : x = -1
          · rw [if_neg (fun h' => h'.1 hx1)]
            exact try_any h a n c ha s hs x k hk ea en ec es hv hfit hn hky hev hx1
          · by_cases hx2 : x = (I.ver s : Int)
            · rw [if_neg (fun h' => h'.2 hx2)]
              exact try_at h a n c ha s hs x k hk ea en ec es hv hfit hn hky hev hx2
            · rw [if_pos ⟨hx1, hx2⟩]
              exact try_ver h a n c ha s hs x k hk ea en ec es hv hfit hn hky hev hx hx1 hx2
      · rw [if_pos hev]
        exact try_evs h a n c ha s hs x k hk ea en ec es hv hfit hn hky hev
    | some d =>
      obtain ⟨ds, df, dp, dc⟩ := d
      simp only []
      by_cases hd : ds = s
      · rw [if_neg (fun h' => h' hd)]
        exact try_again h a n c ha s hs x k hk ea en ec es hv hfit hn ds df dp dc hky hd
      · rw [if_pos hd]
        exact try_key h a n c ha s hs x k hk ea en ec es hv hfit hn ds df dp dc hky hd
  · rw [if_pos hn]
    cases hky : I.key k with
    | none => exact try_names0 h a n c ha s hs x k hk ea en ec es hv hfit hn hky
    | some d =>
      obtain ⟨ds, df, dp, dc⟩ := d
      exact try_names1 h a n c ha s hs x k hk ea en ec es hv hfit hn ds df dp dc hky
end Go.Proofs.Ytgpijeaehkabdaa
