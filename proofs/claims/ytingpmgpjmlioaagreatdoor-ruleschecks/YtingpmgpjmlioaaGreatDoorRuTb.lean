/-
  DERIVED. The law's own table.
-/
import Derived.Test.YtingpmgpjmlioaaGreatDoorRuUg
import Derived.Test.YtingpmgpjmlioaaGreatDoorRuDg
namespace Go.Proofs.YtingpmgpjmlioaaGreatDoor
open Go.RowKit
set_option linter.unusedVariables false

/-- Blocks laid one behind the other. -/
def allocL (w : World) : List Obj → World
  | [] => w
  | o :: r => allocL (w.alloc o) r
theorem allocL_below : ∀ (os : List Obj) (w : World), Below w.heap.size w (allocL w os)
  | [], w => Below.refl _ _
  | o :: r, w => by
    have h1 : Below w.heap.size w (w.alloc o) := (Below.refl _ _).alloc (Nat.le_refl _) _
    have h2 := allocL_below r (w.alloc o)
    exact h1.trans (h2.mono h1.size)
theorem allocL_at : ∀ (os : List Obj) (w : World) (i : Nat) (o : Obj), os[i]? = some o → (allocL w os).heap[w.heap.size + i]? = some o
  | [], w, i, o, h => by simp at h
  | p :: r, w, 0, o, h => by
    simp at h
    subst h
    have h2 := allocL_below r (w.alloc p)
    exact (h2.block _ (by simp)).trans (heap_alloc_new w p)
  | p :: r, w, i + 1, o, h => by
    have := allocL_at r (w.alloc p) i o (by simpa using h)
    rw [World.size_alloc, Nat.add_assoc, Nat.add_comm 1 i] at this
    exact this

theorem slOne {α : Type} {sz : Nat} {At : World → Nat → Nat → α → Prop} {w : World} {b : Nat} {x : α} (hb : b < w.heap.size) (h : At w b 0 x) : SlOf sz At w (.slice (some ⟨b, 0, none⟩) 1 1) [x] :=
  ⟨_, 1, rfl, by simp, by omega, fun _ => ⟨b, 0, rfl, hb, fun i y hi => by
    cases i with
    | zero => simp at hi; subst hi; simpa using h
    | succ i => simp at hi⟩⟩
theorem slThree {α : Type} {sz : Nat} {At : World → Nat → Nat → α → Prop} {w : World} {b : Nat} {x y z : α} (hb : b < w.heap.size) (h : At w b 0 x) (h2 : At w b sz y) (h3 : At w b (2 * sz) z) : SlOf sz At w (.slice (some ⟨b, 0, none⟩) 3 3) [x, y, z] :=
  ⟨_, 3, rfl, by simp, by omega, fun _ => ⟨b, 0, rfl, hb, fun i u hi => by
    match i, hi with
    | 0, hi => simp at hi; subst hi; simpa using h
    | 1, hi => simp at hi; subst hi; simpa using h2
    | 2, hi => simp at hi; subst hi; simpa using h3
    | k + 3, hi => simp at hi⟩⟩

abbrev tN : List UInt8 := [110]
abbrev tLeft : List UInt8 := [108, 101, 102, 116]
abbrev tTaken : List UInt8 := [116, 97, 107, 101, 110]
abbrev tTake : List UInt8 := [116, 97, 107, 101]
abbrev tNothing : List UInt8 := [110, 111, 116, 104, 105, 110, 103]
abbrev tEmpty : List UInt8 := [101, 109, 112, 116, 121]
abbrev xN : Ex := .mk 4 0 tN []
abbrev xLeft : Ex := .mk 3 0 tLeft []
abbrev xOne : Ex := .mk 1 1 [] []
abbrev xMinus : Ex := .mk 7 0 [] [xLeft, xN]
abbrev nN : Nd := ⟨xN, none, 0⟩
abbrev nLeft : Nd := ⟨xLeft, none, 0⟩
abbrev nOne : Nd := ⟨xOne, none, 0⟩
abbrev nMinus (s : Nat) : Nd := ⟨xMinus, some ⟨s + 13, 0, none⟩, 2⟩
def tCd1 : CdV := ⟨2, false, nN, nOne⟩
def tCd2 : CdV := ⟨2, false, nLeft, nN⟩
def tAs1 : AsV := ⟨tN, nN, by decide⟩
def tAs2 (s : Nat) : AsV := ⟨tLeft, nMinus s, by decide⟩
def tEm (s : Nat) : EmV := ⟨tTaken, [tAs1], some ⟨s + 7, 0, none⟩, 1, by decide⟩
def tCs1 (s : Nat) : CsV := ⟨[tCd1], some ⟨s + 3, 0, none⟩, 1, tNothing, [], none, 0, by decide⟩
def tCs2 (s : Nat) : CsV := ⟨[tCd2], some ⟨s + 5, 0, none⟩, 1, tEmpty, [], none, 0, by decide⟩
def tCs3 (s : Nat) : CsV := ⟨[], none, 0, [], [tEm s], some ⟨s + 8, 0, none⟩, 1, by decide⟩
def tHa (s : Nat) : HaV := ⟨tTake, [⟨tN, false⟩], some ⟨s + 10, 0, none⟩, 1, [tCs1 s, tCs2 s, tCs3 s], some ⟨s + 11, 0, none⟩, 3, by decide, by intro n hn; simp at hn; subst hn; decide⟩
def tEv (s : Nat) : EvV := ⟨tTaken, [tAs2 s], some ⟨s + 16, 0, none⟩, 1, [], none, 0, by decide, by intro n hn; simp at hn⟩

def tabObjs (s : Nat) : List Obj := [
  .cells (rulV (some ⟨s + 15, 0, none⟩) 1 1 (some ⟨s + 17, 0, none⟩) 1 1) 25,
  .cells (ndv nN) 44, .cells (ndv nLeft) 44,
  .cells tCd1.v 46, .cells (tCs1 s).v 66, .cells tCd2.v 46, .cells (tCs2 s).v 66,
  .cells tAs1.v 77, .cells (tEm s).v 94, .cells (tCs3 s).v 66,
  .cells #[sv tN, .bool false] 96,
  .cells #[.slice (some ⟨s + 3, 0, none⟩) 1 1, sv tNothing, .slice none 0 0, .slice (some ⟨s + 5, 0, none⟩) 1 1, sv tEmpty, .slice none 0 0, .slice none 0 0, sv [], .slice (some ⟨s + 8, 0, none⟩) 1 1] 66,
  .cells (tHa s).v 62,
  .cells #[.int .i64 3, .int .i64 0, sv tLeft, .slice none 0 0, .int .i64 4, .int .i64 0, sv tN, .slice none 0 0] 44,
  .cells (ndv (nMinus s)) 44,
  .cells (tHa s).v 62, .cells (tAs2 s).v 77, .cells (tEv s).v 74]
def tabW (w : World) : World := allocL w (tabObjs w.heap.size)

theorem exLeaf (w : World) (k n : Int) (t : List UInt8) (hk : I64 k) (hn : I64 n) (ht : t.length ≤ 140737488355328) : ExAt w (.mk k n t []) none 0 :=
  .mk _ none 0 0 0 (fun _ => none) (fun _ => 0) (by simp [Ex.args]) (by omega) (fun h => absurd rfl h) hk hn ht (fun i h => by simp [Ex.args] at h) (fun i h => by simp [Ex.args] at h)
theorem i64s {z : Int} (h1 : -100 ≤ z) (h2 : z ≤ 100) : I64 z := ⟨by omega, by omega⟩

theorem tab_rows (w : World) {i : Nat} {o : Obj} (h : (tabObjs w.heap.size)[i]? = some o) : (tabW w).heap[w.heap.size + i]? = some o := allocL_at _ _ _ _ h
theorem tab_cell (w : World) {i : Nat} {cs : Array Value} {t : TypeId} (h : (tabObjs w.heap.size)[i]? = some (.cells cs t)) (j : Nat) : (tabW w).cell? ⟨w.heap.size + i, j, none⟩ = cs[j]? := cell_of_row _ _ _ _ _ _ (tab_rows w h)
theorem tab_c (w : World) (i : Nat) {cs : Array Value} {t : TypeId} (h : (tabObjs w.heap.size)[i]? = some (.cells cs t)) (j : Nat) {v : Value} (hv : cs[j]? = some v) : (tabW w).cell? ⟨w.heap.size + i, j, none⟩ = some v := (tab_cell w h j).trans hv
theorem tab_lt (w : World) {i : Nat} {o : Obj} (h : (tabObjs w.heap.size)[i]? = some o) : w.heap.size + i < (tabW w).heap.size := (Array.getElem?_eq_some_iff.1 (tab_rows w h)).1

theorem tab_nN (w : World) : nN.at w := exLeaf w 4 0 tN (i64s (by omega) (by omega)) (i64s (by omega) (by omega)) (by decide)
theorem tab_nLeft (w : World) : nLeft.at w := exLeaf w 3 0 tLeft (i64s (by omega) (by omega)) (i64s (by omega) (by omega)) (by decide)
theorem tab_nOne (w : World) : nOne.at w := exLeaf w 1 1 [] (i64s (by omega) (by omega)) (i64s (by omega) (by omega)) (by decide)
theorem tab_minus (w : World) : (nMinus w.heap.size).at (tabW w) := by
  refine .mk xMinus _ 2 (w.heap.size + 13) 0 (fun _ => none) (fun _ => 0) (by simp [Ex.args]) (by omega) (fun _ => ⟨rfl, tab_lt w rfl⟩) (i64s (by simp [Ex.kind]) (by simp [Ex.kind])) (i64s (by simp [Ex.n]) (by simp [Ex.n])) (by simp [Ex.s]) (fun i h => ?_) (fun i h => ?_)
  · match i, h with
    | 0, _ => exact ⟨tab_c w 13 rfl 0 rfl, tab_c w 13 rfl 1 rfl, tab_c w 13 rfl 2 rfl, tab_c w 13 rfl 3 rfl⟩
    | 1, _ => exact ⟨tab_c w 13 rfl 4 rfl, tab_c w 13 rfl 5 rfl, tab_c w 13 rfl 6 rfl, tab_c w 13 rfl 7 rfl⟩
    | k + 2, h => exact absurd (show k + 2 < 2 from h) (by omega)
  · match i, h with
    | 0, _ => exact tab_nLeft _
    | 1, _ => exact tab_nN _
    | k + 2, h => exact absurd (show k + 2 < 2 from h) (by omega)

theorem tab_cd1 (w : World) : CdR (tabW w) (w.heap.size + 3) 0 tCd1 :=
  ⟨tab_c w 3 rfl 0 rfl, tab_c w 3 rfl 1 rfl, ⟨tab_c w 3 rfl 2 rfl, tab_c w 3 rfl 3 rfl, tab_c w 3 rfl 4 rfl, tab_c w 3 rfl 5 rfl, tab_nN _⟩, tab_c w 3 rfl 6 rfl, tab_c w 3 rfl 7 rfl, tab_c w 3 rfl 8 rfl, tab_c w 3 rfl 9 rfl, tab_nOne _⟩
theorem tab_cd2 (w : World) : CdR (tabW w) (w.heap.size + 5) 0 tCd2 :=
  ⟨tab_c w 5 rfl 0 rfl, tab_c w 5 rfl 1 rfl, ⟨tab_c w 5 rfl 2 rfl, tab_c w 5 rfl 3 rfl, tab_c w 5 rfl 4 rfl, tab_c w 5 rfl 5 rfl, tab_nLeft _⟩, tab_c w 5 rfl 6 rfl, tab_c w 5 rfl 7 rfl, tab_c w 5 rfl 8 rfl, tab_c w 5 rfl 9 rfl, tab_nN _⟩
theorem tab_as1 (w : World) : AsR (tabW w) (w.heap.size + 7) 0 tAs1 :=
  ⟨tab_c w 7 rfl 0 rfl, tab_c w 7 rfl 1 rfl, tab_c w 7 rfl 2 rfl, tab_c w 7 rfl 3 rfl, tab_c w 7 rfl 4 rfl, tab_nN _⟩
theorem tab_em (w : World) : EmR (tabW w) (w.heap.size + 8) 0 (tEm w.heap.size) :=
  ⟨tab_c w 8 rfl 0 rfl, tab_c w 8 rfl 1 rfl, slOne (tab_lt w (i := 7) rfl) (tab_as1 w)⟩
theorem tab_ha (w : World) : HaR (tabW w) (w.heap.size + 15) 0 (tHa w.heap.size) :=
  ⟨tab_c w 15 rfl 0 rfl, tab_c w 15 rfl 1 rfl, tab_c w 15 rfl 2 rfl, slOne (tab_lt w (i := 10) rfl) ⟨tab_c w 10 rfl 0 rfl, tab_c w 10 rfl 1 rfl⟩,
    slThree (tab_lt w (i := 11) rfl)
      ⟨tab_c w 11 rfl 0 rfl, tab_c w 11 rfl 1 rfl, tab_c w 11 rfl 2 rfl, slOne (tab_lt w (i := 3) rfl) (tab_cd1 w), SlOf.nil _⟩
      ⟨tab_c w 11 rfl 3 rfl, tab_c w 11 rfl 4 rfl, tab_c w 11 rfl 5 rfl, slOne (tab_lt w (i := 5) rfl) (tab_cd2 w), SlOf.nil _⟩
      ⟨tab_c w 11 rfl 6 rfl, tab_c w 11 rfl 7 rfl, tab_c w 11 rfl 8 rfl, SlOf.nil _, slOne (tab_lt w (i := 8) rfl) (tab_em w)⟩⟩
theorem tab_ev (w : World) : EvR (tabW w) (w.heap.size + 17) 0 (tEv w.heap.size) :=
  ⟨tab_c w 17 rfl 0 rfl, tab_c w 17 rfl 1 rfl, tab_c w 17 rfl 2 rfl, slOne (tab_lt w (i := 16) rfl) ⟨tab_c w 16 rfl 0 rfl, tab_c w 16 rfl 1 rfl, tab_c w 16 rfl 2 rfl, tab_c w 16 rfl 3 rfl, tab_c w 16 rfl 4 rfl, tab_minus w⟩, SlOf.nil _⟩
theorem tab_is (w : World) : TabR (tabW w) (some ⟨w.heap.size + 15, 0, none⟩) 1 [tHa w.heap.size] (some ⟨w.heap.size + 17, 0, none⟩) 1 [tEv w.heap.size] :=
  ⟨slOne (tab_lt w (i := 15) rfl) (tab_ha w), slOne (tab_lt w (i := 17) rfl) (tab_ev w)⟩

/-- The table, plain. -/
def tabH : List Ha := [⟨tTake, [⟨tN, false⟩], [⟨[⟨2, false, xN, xOne⟩], tNothing, []⟩, ⟨[⟨2, false, xLeft, xN⟩], tEmpty, []⟩, ⟨[], [], [⟨tTaken, [⟨tN, xN⟩]⟩]⟩]⟩]
def tabE : List Evo := [⟨tTaken, [⟨tLeft, xMinus⟩], []⟩]
theorem tab_hp (s : Nat) : [tHa s].map HaV.p = tabH := rfl
theorem tab_vp (s : Nat) : [tEv s].map EvV.p = tabE := rfl
theorem sizeRules : (Tryz.prog.info? 25).map (·.size) = some 2 := by kernel_rfl

set_option maxRecDepth 20000 in
set_option maxHeartbeats 4000000 in
theorem table_go (w : World) : Calls Tryz.prog 16 #[] w fun e w' => e = .returned (.agg (rulV (some ⟨w.heap.size + 15, 0, none⟩) 1 1 (some ⟨w.heap.size + 17, 0, none⟩) 1 1)) ∧ w' = tabW w := by
  have HR : Hid ((tabW w).heap[w.heap.size]? = some (.cells (rulV (some ⟨w.heap.size + 15, 0, none⟩) 1 1 (some ⟨w.heap.size + 17, 0, none⟩) 1 1) 25)) := hide (tab_rows w (i := 0) rfl)
  go_enter Tryz.func16, Tryz.ntmps16
  go_wp2_with fail
  refine bodyPost_ret (w := tabW w) (results_cell_row rfl _ (tabW w) w.heap.size 25 (rulV (some ⟨w.heap.size + 15, 0, none⟩) 1 1 (some ⟨w.heap.size + 17, 0, none⟩) 1 1) (0, 0) _ rfl (unhide HR) Tryz.underlying25 rfl sizeRules) rfl ⟨rfl, rfl⟩
end Go.Proofs.YtingpmgpjmlioaaGreatDoor

namespace Go.Proofs.YtingpmgpjmlioaaGreatDoor
open Go.RowKit
set_option linter.unusedVariables false

abbrev fSt : Fld := ⟨tLeft, false, 5, []⟩
abbrev fGv : Fld := ⟨tN, false, 2, []⟩
abbrev fNx : Fld := ⟨tLeft, false, 3, []⟩
theorem tab_dec : decE [115] [fSt] [fGv] tabH tTake = .ok ⟨false, [], [⟨tTaken, [fGv]⟩]⟩ := by kernel_rfl
theorem tab_fold : foldR tabE [115] [fSt] tTaken [fGv] = [fNx] := by kernel_rfl
theorem tab_chk : checkT tabH tabE = 0 := by decide +kernel
theorem tab_big (s : Nat) : ∀ h ∈ [tHa s], bigHa h := by
  intro h hh
  rw [List.mem_singleton.1 hh]
  intro x hx
  have : x = tCs1 s ∨ x = tCs2 s ∨ x = tCs3 s := by simpa [tHa] using hx
  rcases this with rfl | rfl | rfl
  · exact ⟨by simp [tCs1], by intro m hm; simp [tCs1] at hm⟩
  · exact ⟨by simp [tCs2], by intro m hm; simp [tCs2] at hm⟩
  · exact ⟨by simp [tCs3], by intro m hm; simp [tCs3] at hm; subst hm; simp [tEm]⟩
theorem AsR.at {w : World} {b o : Nat} {s : AsV} (h : AsR w b o s) : AsAt w b o s.p := ⟨h.1, h.2.1, h.2.2.1, h.2.2.2.1, s.e.a, s.e.c, h.2.2.2.2.1, h.2.2.2.2.2⟩
theorem SlOf.to {α V : Type} {sz : Nat} {At : World → Nat → Nat → α → Prop} {R : World → Nat → Nat → V → Prop} (p : V → α) {w : World} {v : Value} {Y : List V} (h : SlOf sz R w v Y) (hp : ∀ b o y, R w b o y → At w b o (p y)) : SlOf sz At w v (Y.map p) := by
  obtain ⟨ao, cap, rfl, h1, h2, h4⟩ := h
  refine ⟨ao, cap, by simp, by simpa using h1, h2, fun hz => ?_⟩
  obtain ⟨b, off, e, hlt, hc⟩ := h4 (by simpa using hz)
  refine ⟨b, off, e, hlt, fun i x hi => ?_⟩
  rw [List.getElem?_map] at hi
  obtain ⟨y, hy, rfl⟩ := Option.map_eq_some_iff.1 hi
  exact hp _ _ _ (hc i y hy)
theorem EvR.at {w : World} {b o : Nat} {v : EvV} (h : EvR w b o v) : EvoAt w b o v.p := by
  obtain ⟨h0, h1, h2, h3, h4⟩ := h
  have h3' := SlOf.to AsV.p h3 (fun _ _ _ => AsR.at)
  refine ⟨h0, ⟨v.sa, v.sc, ?_, ?_⟩, v.da, v.dc, h2, h4⟩
  · show w.cell? ⟨b, o + 1, none⟩ = some (Value.slice v.sa (v.sets.map AsV.p).length v.sc)
    rw [List.length_map]; exact h1
  · show SlOf 5 AsAt w (Value.slice v.sa (v.sets.map AsV.p).length v.sc) (v.sets.map AsV.p)
    rw [List.length_map]; exact h3'

theorem row_one (w : World) (g : Nat) (f : Fld) (h : w.heap[g]? = some (.cells (fv f) 48)) : FdN w (some ⟨g, 0, none⟩) 1 [f] := by
  refine ⟨⟨_, 1, rfl, by simp, by omega, fun _ => ⟨g, 0, rfl, lt_of_block h, fun i hi => ?_⟩⟩, fun _ => ⟨g, 0, rfl⟩⟩
  have : i = 0 := by simpa using hi
  subst this
  exact ⟨(cell_of_row _ _ _ _ _ _ h).trans rfl, (cell_of_row _ _ _ _ _ _ h).trans rfl, (cell_of_row _ _ _ _ _ _ h).trans rfl, (cell_of_row _ _ _ _ _ _ h).trans rfl⟩
theorem FOwn.one {w : World} {base : Nat} {v : Value} {f : Fld} (h : FOwn w base v [f]) : ∃ g c, v = .slice (some ⟨g, 0, none⟩) 1 c ∧ g < w.heap.size ∧ w.cell? ⟨g, 0, none⟩ = some (sv f.name) ∧ w.cell? ⟨g, 1, none⟩ = some (.bool f.text) ∧ w.cell? ⟨g, 2, none⟩ = some (.int .i64 f.n) ∧ w.cell? ⟨g, 3, none⟩ = some (sv f.s) := by
  obtain ⟨h1, h2⟩ := id h
  rcases h2 with ⟨_, e⟩ | ⟨g, cap, cur, rfl, hb, hg, hn, hm, hs, ht⟩
  · simp at e
  · obtain ⟨⟨c0, c1, c2, c3⟩, _⟩ := h.slots 0 (by simp)
    exact ⟨g, cap, rfl, lt_of_block hg, c0, c1, c2, c3⟩
theorem EvOwn.one {w : World} {base : Nat} {v : Value} {e : EvM} (h : EvOwn w base v [e]) : ∃ g c a m cc, v = .slice (some ⟨g, 0, none⟩) 1 c ∧ base ≤ g ∧ g < w.heap.size ∧ w.cell? ⟨g, 0, none⟩ = some (sv e.type) ∧ w.cell? ⟨g, 1, none⟩ = some (.int .i64 0) ∧ w.cell? ⟨g, 2, none⟩ = some (.slice a m cc) ∧ m = e.fields.length ∧ FOwn w base (.slice a m cc) e.fields := by
  obtain ⟨R, ⟨h1, h2⟩, h3, h4⟩ := h
  have hl : R.length = 1 := by simpa using h3
  obtain ⟨r, rfl⟩ : ∃ r, R = [r] := by
    match R, hl with
    | [r], _ => exact ⟨r, rfl⟩
  obtain ⟨e0, e1, e2⟩ := h4 0 e r rfl rfl
  rcases h2 with ⟨_, e⟩ | ⟨g, cap, cur, rfl, hb, hg, hn, hm, hs, ht⟩
  · simp at e
  · have at' : ∀ j u, j < 3 → (ecs [r])[j]? = some u → w.cell? ⟨g, j, none⟩ = some u := by
      intro j u hj hu
      have e : (cur.toList.take ([r].length * 3))[j]? = (ecs [r])[j]? := by rw [ht]
      rw [List.getElem?_take_of_lt (by simpa using hj), hu] at e
      simp only [World.cell?, hg]
      simpa using e
    exact ⟨g, cap, r.a, r.n, r.c, rfl, hb, lt_of_block hg, by rw [← e0]; exact at' 0 _ (by omega) (by simp [ecs]), at' 1 _ (by omega) (by simp [ecs]), at' 2 _ (by omega) (by simp [ecs]), e1, e2⟩

set_option maxRecDepth 20000 in
set_option maxHeartbeats 8000000 in
theorem uawake_go (w : World) (hva : Vars w) : Calls Tryz.prog 6 #[] w fun e w' => e = .returned (.bool true) ∧ Below w.heap.size w w' := by
  obtain ⟨hs2, hg2⟩ := boxes2 w (.cells (fv fSt) 48) (.cells (fv fGv) 48)
  have hb2 := below2 w (.cells (fv fSt) 48) (.cells (fv fGv) 48)
  obtain ⟨w2, hw2⟩ : ∃ w2, w2 = (w.alloc (.cells (fv fSt) 48)).alloc (.cells (fv fGv) 48) := ⟨_, rfl⟩
  rw [← hw2] at hs2 hg2 hb2
  have HW := hide hw2
  have HB2 := hide hb2
  have HTb := hide (table_go w2)
  have hb3 := allocL_below (tabObjs w2.heap.size) w2
  have HSt : Hid (∀ W, Below w2.heap.size w2 W → FdN W (some ⟨w.heap.size, 0, none⟩) 1 [fSt]) := hide (fun W hW => row_one W _ fSt (rowKept hs2 hW (Nat.le_refl _)))
  have HGv : Hid (∀ W, Below w2.heap.size w2 W → FdN W (some ⟨w.heap.size + 1, 0, none⟩) 1 [fGv]) := hide (fun W hW => row_one W _ fGv (rowKept hg2 hW (Nat.le_refl _)))
  have hsm : ∀ f ∈ [fSt], small f := fun f hf => by rw [List.mem_singleton.1 hf]; exact ⟨by decide, by decide, by decide⟩
  have hgm : ∀ f ∈ [fGv], small f := fun f hf => by rw [List.mem_singleton.1 hf]; exact ⟨by decide, by decide, by decide⟩
  have HDc : Hid (Calls Tryz.prog 11 #[.agg (rulV (some ⟨w2.heap.size + 15, 0, none⟩) 1 1 (some ⟨w2.heap.size + 17, 0, none⟩) 1 1), sv [115], .slice (some ⟨w.heap.size, 0, none⟩) 1 1, sv tTake, .slice (some ⟨w.heap.size + 1, 0, none⟩) 1 1] (tabW w2) (CaughtD (tabW w2) (.ok ⟨false, [], [⟨tTaken, [fGv]⟩]⟩))) := hide (by
    have := Decide_any (some ⟨w2.heap.size + 15, 0, none⟩) 1 [tHa w2.heap.size] (some ⟨w2.heap.size + 17, 0, none⟩) 1 1 [115] [fSt] [fGv] (some ⟨w.heap.size, 0, none⟩) 1 tTake (some ⟨w.heap.size + 1, 0, none⟩) 1 (tabW w2) (tab_is w2).hand (tab_big _) (unhide HSt _ hb3).1 (unhide HGv _ hb3).1 (by decide) hsm hgm (hva.below (hb2.trans (hb3.mono hb2.size)) (Nat.le_refl _))
    rw [tab_hp, tab_dec] at this
    exact this)
  have HFo : Hid (∀ (W : World) (a : Option Addr) (cc : Nat), Below w2.heap.size w2 W → FOwn W w2.heap.size (.slice a 1 cc) [fGv] → Calls Tryz.prog 10 #[.agg (rulV (some ⟨W.heap.size + 15, 0, none⟩) 1 1 (some ⟨W.heap.size + 17, 0, none⟩) 1 1), sv [115], .slice (some ⟨w.heap.size, 0, none⟩) 1 1, .agg (evtV tTaken 0 a 1 cc)] (tabW W) fun e w' => ∃ v, e = .returned v ∧ FOwn w' (tabW W).heap.size v [fNx] ∧ Below (tabW W).heap.size (tabW W) w') := hide (fun W a cc hW ho => by
    have hb := allocL_below (tabObjs W.heap.size) W
    have h1 := hW.trans (hb.mono hW.size)
    have := Fold_any (some ⟨W.heap.size + 15, 0, none⟩) 1 1 (some ⟨W.heap.size + 17, 0, none⟩) 1 1 tabE [115] (some ⟨w.heap.size, 0, none⟩) 1 [fSt] tTaken 0 a cc [fGv] (tabW W) (by
      have := SlOf.to EvV.p (tab_is W).evol (fun _ _ _ => EvR.at)
      exact this) (by decide) (unhide HSt _ h1) (by decide) ((ho.below hb (Nat.le_refl _)).fdl) (by decide) hsm hgm (hva.below (hb2.trans (h1.mono hb2.size)) (Nat.le_refl _))
    rw [tab_fold] at this
    exact this)
  have HCk : Hid (∀ W, Calls Tryz.prog 7 #[.agg (rulV (some ⟨W.heap.size + 15, 0, none⟩) 1 1 (some ⟨W.heap.size + 17, 0, none⟩) 1 1)] (tabW W) fun e w' => e = .returned (.int .i64 0) ∧ Below (tabW W).heap.size (tabW W) w') := hide (fun W => by
    have := uCheck_any (some ⟨W.heap.size + 15, 0, none⟩) 1 [tHa W.heap.size] (some ⟨W.heap.size + 17, 0, none⟩) 1 [tEv W.heap.size] (tabW W) (tab_is W)
    rw [tab_hp, tab_vp, tab_chk] at this
    exact this)
  have HTg : Hid (∀ W, Calls Tryz.prog 16 #[] W fun e w' => e = .returned (.agg (rulV (some ⟨W.heap.size + 15, 0, none⟩) 1 1 (some ⟨W.heap.size + 17, 0, none⟩) 1 1)) ∧ w' = tabW W) := hide table_go
  have HB3 := hide hb3
  have HTW : Hid (∀ W, Below W.heap.size W (tabW W)) := hide (fun W => allocL_below _ W)
  clear hw2 hs2 hg2 hb2 hb3 hsm hgm hva
  go_enter Tryz.func6, Tryz.ntmps6
  go_upto_region 3 with fail
  rw [show (w.alloc (.cells #[Value.string ⟨#[108, 101, 102, 116]⟩, .bool false, .int .i64 5, .string ⟨#[]⟩] 48)).alloc (.cells #[Value.string ⟨#[110]⟩, .bool false, .int .i64 2, .string ⟨#[]⟩] 48) = w2 from (unhide HW).symm]
  go_upto_region 4 with (first | (go_at_call 16; refine (unhide HTb).mono ?_; rintro e w3 ⟨rfl, rfl⟩) | (go_at_call 11; refine (unhide HDc).mono ?_; rintro e w4 ⟨⟨v, rfl, o4⟩, b4⟩; obtain ⟨g, gc, fa, fm, fcc, rfl, hg1, hg2, g0, g1, g2, hfm, ho⟩ := o4.one; simp only [List.length_cons, List.length_nil] at hfm; subst hfm; have HB4 := hide ((unhide HB3).trans (b4.mono (unhide HB3).size)); have HO4 := hide (And.intro hg2 (And.intro g0 (And.intro g1 (And.intro g2 (ho.mono (unhide HB3).size))))); clear b4 o4 ho hg1 hg2 g0 g1 g2))
  have hb5 : Below w4.heap.size w4 (w4.alloc (.cells (dcV ⟨false, [], [⟨tTaken, [fGv]⟩]⟩ (.slice (some ⟨g, 0, none⟩) 1 gc)) 37)) := (Below.refl _ _).alloc (Nat.le_refl _) _
  have hx5 : (w4.alloc (.cells (dcV ⟨false, [], [⟨tTaken, [fGv]⟩]⟩ (.slice (some ⟨g, 0, none⟩) 1 gc)) 37)).heap[w4.heap.size]? = some (.cells (dcV ⟨false, [], [⟨tTaken, [fGv]⟩]⟩ (.slice (some ⟨g, 0, none⟩) 1 gc)) 37) := heap_alloc_new _ _
  obtain ⟨hg2, g0, g1, g2, ho⟩ := unhide HO4
  have hg0 := kept hb5 g0
  have hg1 := kept hb5 g1
  have hg2' := kept hb5 g2
  have HO5 := hide (ho.below hb5 (Nat.le_refl _))
  have HB5 := hide ((unhide HB4).trans (hb5.mono (unhide HB4).size))
  obtain ⟨w5, hw5⟩ : ∃ w5, w5 = w4.alloc (.cells (dcV ⟨false, [], [⟨tTaken, [fGv]⟩]⟩ (.slice (some ⟨g, 0, none⟩) 1 gc)) 37) := ⟨_, rfl⟩
  rw [show w4.alloc (.cells #[Value.bool false, .string ⟨#[]⟩, .slice (some ⟨g, 0, none⟩) 1 gc] 37) = w5 from hw5.symm]
  rw [← hw5] at hx5 hg0 hg1 hg2' HO5 HB5
  obtain ⟨p5, hp5⟩ : ∃ p5, p5 = w4.heap.size := ⟨_, rfl⟩
  rw [← hp5] at hx5 ⊢
  obtain ⟨x0, x1, x2, -⟩ := cells3 hx5
  have hgl : g < w5.heap.size := World.block_lt_of_cell? _ _ hg0
  have HX5 := hide hx5
  clear hb5 hw5 hp5 g0 g1 g2 ho hg2 hx5
  have S0 : Hid (w5.cell? ⟨p5, 2, none⟩ = some (.slice (some ⟨g, 0, none⟩) 1 gc) ∧ w5.cell? ⟨g, 0, none⟩ = some (sv tTaken) ∧ w5.cell? ⟨g, 1, none⟩ = some (.int .i64 0) ∧ w5.cell? ⟨g, 2, none⟩ = some (.slice fa 1 fcc)) := hide ⟨x2, hg0, hg1, hg2'⟩
  have SD : Hid (w5.drew.cell? ⟨p5, 2, none⟩ = some (.slice (some ⟨g, 0, none⟩) 1 gc) ∧ w5.drew.cell? ⟨g, 0, none⟩ = some (sv tTaken) ∧ w5.drew.cell? ⟨g, 1, none⟩ = some (.int .i64 0) ∧ w5.drew.cell? ⟨g, 2, none⟩ = some (.slice fa 1 fcc)) := hide ⟨x2, hg0, hg1, hg2'⟩
  have bD : Below w5.heap.size w5 w5.drew := (Below.refl _ _).drew
  have bT := unhide HTW w5.drew
  have ST : Hid ((tabW w5.drew).cell? ⟨p5, 2, none⟩ = some (.slice (some ⟨g, 0, none⟩) 1 gc) ∧ (tabW w5.drew).cell? ⟨g, 0, none⟩ = some (sv tTaken) ∧ (tabW w5.drew).cell? ⟨g, 1, none⟩ = some (.int .i64 0) ∧ (tabW w5.drew).cell? ⟨g, 2, none⟩ = some (.slice fa 1 fcc)) := hide ⟨kept bT (unhide SD).1, kept bT (unhide SD).2.1, kept bT (unhide SD).2.2.1, kept bT (unhide SD).2.2.2⟩
  have hb2D := (unhide HB5).trans (bD.mono (unhide HB5).size)
  have HF5 := hide (unhide HFo w5.drew fa fcc hb2D ((unhide HO5).below bD (Nat.le_refl _)))
  have HB5T := hide (hb2D.trans (bT.mono hb2D.size))
  have HTD := hide (unhide HTg w5.drew)
  clear bD bT hb2D
  go_upto_region 6 with fail
  go_region_held3 (fun w' => w'.cell? ⟨p5, 2, none⟩ = some (.slice (some ⟨g, 0, none⟩) 1 gc) ∧ w'.cell? ⟨g, 0, none⟩ = some (sv tTaken) ∧ w'.cell? ⟨g, 1, none⟩ = some (.int .i64 0) ∧ w'.cell? ⟨g, 2, none⟩ = some (.slice fa 1 fcc))
    (first | with_reducible exact unhide S0 | with_reducible exact unhide SD | with_reducible exact unhide ST | with_reducible exact unhide S7)
    ((first
      | (go_at_call 16; refine (unhide HTD).mono ?_; rintro e w6 ⟨rfl, rfl⟩)
      | (go_at_call 10; refine (unhide HF5).mono ?_; rintro e w7 ⟨v7, rfl, o7, b7⟩; obtain ⟨g7, c7, rfl, hl7, k0, k1, k2, k3⟩ := o7.one; have HB7 := hide ((unhide HB5T).trans (b7.mono (unhide HB5T).size)); have S7 := hide (And.intro (kept b7 (unhide ST).1) (And.intro (kept b7 (unhide ST).2.1) (And.intro (kept b7 (unhide ST).2.2.1) (kept b7 (unhide ST).2.2.2)))); have HT7 := hide (unhide HTg w7); have HC7 := hide (unhide HCk w7); clear o7 b7)))
  all_goals
    go_wp2_with (first | (go_at_call 16; refine (unhide HT7).mono ?_; rintro e w8 ⟨rfl, rfl⟩) | (go_at_call 7; refine (unhide HC7).mono ?_; rintro e w9 ⟨rfl, b9⟩; have HB9 := hide ((unhide HB7).trans (((unhide HTW w7).trans (b9.mono (unhide HTW w7).size)).mono (unhide HB7).size)); clear b9))
    go_ret
    exact ⟨rfl, (unhide HB2).trans ((unhide HB9).mono (unhide HB2).size)⟩
end Go.Proofs.YtingpmgpjmlioaaGreatDoor
