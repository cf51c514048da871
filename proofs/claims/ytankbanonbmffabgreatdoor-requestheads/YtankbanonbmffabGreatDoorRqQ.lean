/-
  DERIVED. A region that draws its order, whose last operation waits for all others, which only read: they are walked once, in the order of the text, and the last one behind them (it may give up).
-/
import Derived.Test.YtankbanonbmffabGreatDoorPeel
import Derived.BigQuiet
namespace Go.Proofs.YtankbanonbmffabGreatDoor
open Go

theorem wp_region_quiet_last {P : Program} {id n : Nat} {Q : Exit → Act → World → Prop} {a : Act} {w : World} {full : Array Oper} {l : List Oper} {L : Oper} (hm : P.follows .mixedOrders = true) (hn : full.size = n + 1) (hL : full[n]? = some L) (hl : full.pop = l.toArray) (hp : peels .any l.toArray L = true) (hB : Region.lexB .any l.toArray = true)
    (h : wpQuiet P l.toArray (fun w' => ∃ n, w' = w.drewN n) (fun a' => ∀ w', (∃ n, w' = w.drewN n) → L.wp P a' w' (fun a'' w'' => Q .normal a'' w'') Q) l a) : (Code.region id full true).wp P Q a w := by
  have hz : l.toArray.size = n := by rw [← hl]; simp [hn]
  have hf : full = l.toArray.push L := by
    rw [← hl]
    have h1 : n < full.size := by omega
    have h2 : full[n] = L := by rw [Array.getElem?_eq_getElem h1] at hL; exact Option.some.inj hL
    refine Array.ext (by simp; omega) fun k hk1 hk2 => ?_
    by_cases e : k = n
    · subst e; rw [h2, Array.getElem_push]; simp [hn]
    · have : k < full.pop.size := by simp; omega
      rw [Array.getElem_push, dif_pos this]; simp
  refine wp_region_any hm ?_
  simp only [Region.lexB, Bool.and_eq_true] at hB
  have hQ : wpAny P .any l.toArray (peelQ P L Q) n (Array.replicate n false) a { w with drawn := w.drawn + 1 } := by
    refine wpAny_of_quiet (C := fun w' => ∃ n, w' = w.drewN n) (Q := fun a' => ∀ w', (∃ n, w' = w.drewN n) → L.wp P a' w' (fun a'' w'' => Q .normal a'' w'') Q) (fun _ w' hw' h => h w' hw') _ _ _ _ ⟨1, rfl⟩ ?_
    have := wpAnyQ_lex (C := fun w' => ∃ n, w' = w.drewN n) (md := .any) hB.1 l 0 (Array.replicate l.toArray.size false) a (by simp) (by simpa using hB.2) h
    rw [hz] at this
    have hz' : l.length = n := by simpa using hz
    rw [hz'] at this
    simpa using this
  have := peel_any hp n (Array.replicate n false) a _ (by simp [hz]) (fun i o _ h => by by_cases hi : i < n <;> simp [hi] at h) hQ
  rw [hn]
  have e : Array.replicate (n + 1) false = (Array.replicate n false).push false := by simp [Array.replicate_succ]
  rw [e, hf]
  exact this

/-- The same, two operations behind the others: the first of them waits for all others, the second one for it. -/
theorem wp_region_quiet_last2 {P : Program} {id n : Nat} {Q : Exit → Act → World → Prop} {a : Act} {w : World} {full : Array Oper} {l : List Oper} {L M : Oper} (hm : P.follows .mixedOrders = true) (hn : full.size = n + 2) (hL : full[n]? = some L) (hM : full[n + 1]? = some M) (hl : full.pop.pop = l.toArray) (hp : peels .any l.toArray L = true) (hp2 : peels .any (l ++ [L]).toArray M = true) (hB : Region.lexB .any l.toArray = true)
    (h : wpQuiet P l.toArray (fun w' => ∃ n, w' = w.drewN n) (fun a' => ∀ w', (∃ n, w' = w.drewN n) → L.wp P a' w' (fun a'' w'' => M.wp P a'' w'' (fun a3 w3 => Q .normal a3 w3) Q) (peelQ P M Q)) l a) : (Code.region id full true).wp P Q a w := by
  have hz : l.toArray.size = n := by rw [← hl]; simp [hn]
  have hz' : l.length = n := by simpa using hz
  have hf : full = (l.toArray.push L).push M := by
    rw [← hl]
    have h1 : n < full.size := by omega
    have h2 : full[n] = L := by rw [Array.getElem?_eq_getElem h1] at hL; exact Option.some.inj hL
    have h3 : n + 1 < full.size := by omega
    have h4 : full[n + 1] = M := by rw [Array.getElem?_eq_getElem h3] at hM; exact Option.some.inj hM
    refine Array.ext (by simp; omega) fun k hk1 hk2 => ?_
    by_cases e2 : k = n + 1
    · subst e2; rw [h4, Array.getElem_push]; simp [hn]
    · by_cases e : k = n
      · subst e
        rw [h2, Array.getElem_push, dif_pos (by simp; omega), Array.getElem_push]; simp [hn]
      · have : k < full.pop.pop.size := by simp; omega
        rw [Array.getElem_push, dif_pos (by simp; omega), Array.getElem_push, dif_pos this]; simp
  refine wp_region_any hm ?_
  simp only [Region.lexB, Bool.and_eq_true] at hB
  have hQ : wpAny P .any l.toArray (peelQ P L (peelQ P M Q)) n (Array.replicate n false) a { w with drawn := w.drawn + 1 } := by
    refine wpAny_of_quiet (C := fun w' => ∃ n, w' = w.drewN n) (Q := fun a' => ∀ w', (∃ n, w' = w.drewN n) → L.wp P a' w' (fun a'' w'' => M.wp P a'' w'' (fun a3 w3 => Q .normal a3 w3) Q) (peelQ P M Q)) (fun _ w' hw' h => h w' hw') _ _ _ _ ⟨1, rfl⟩ ?_
    have := wpAnyQ_lex (C := fun w' => ∃ n, w' = w.drewN n) (md := .any) hB.1 l 0 (Array.replicate l.toArray.size false) a (by simp) (by simpa using hB.2) h
    rw [hz, hz'] at this
    simpa using this
  have h1 := peel_any hp n (Array.replicate n false) a _ (by simp [hz]) (fun i o _ h => by by_cases hi : i < n <;> simp [hi] at h) hQ
  have e : ∀ m, (Array.replicate (m + 1) false) = (Array.replicate m false).push false := fun m => by simp [Array.replicate_succ]
  rw [← e] at h1
  have hla : (l ++ [L]).toArray = l.toArray.push L := by simp
  rw [hla] at hp2
  have h2 := peel_any hp2 (n + 1) (Array.replicate (n + 1) false) a _ (by simp [hz']) (fun i o _ h => by by_cases hi : i < n + 1 <;> simp [hi] at h) h1
  rw [hn, e (n + 1), hf]
  exact h2
end Go.Proofs.YtankbanonbmffabGreatDoor
