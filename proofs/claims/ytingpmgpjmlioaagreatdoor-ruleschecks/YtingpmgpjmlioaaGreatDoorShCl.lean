/-
  DERIVED. The walk of slices.Clone at fields.
-/
import Derived.Test.YtingpmgpjmlioaaGreatDoorShR7
import Derived.Lib.SliceRun
namespace Go.Proofs.YtingpmgpjmlioaaGreatDoor
open Go.RowKit Go.Maps
set_option linter.unusedVariables false

set_option maxHeartbeats 2000000 in
theorem Clone_fld (a : Option Addr) (c : Nat) (fs : List Fld) (w : World) (hv : FdN w a c fs) (hlen : fs.length * 48 ≤ 140737488355328) :
    Calls Tryz.prog 27 #[.slice a fs.length c] w fun e w' => ∃ v, e = .returned v ∧ FOwn w' w.heap.size v fs ∧ Below w.heap.size w w' := by
  have hcl := fdn_len hv
  have hnil := fun (w : World) => Lib.run_eql_slice_nil (P := Tryz.prog) (w := w) 30
  cases a with
  | none =>
    obtain rfl : c = 0 := by
      by_cases hz : c = 0
      · exact hz
      · obtain ⟨b, off, e⟩ := hv.2 hz; cases e
    obtain rfl : fs = [] := List.eq_nil_of_length_eq_zero (by omega)
    clear hv
    simp only [List.length_nil]
    go_enter Tryz.func27, Tryz.ntmps27
    go_wp2_with fail
    go_ret
    exact ⟨_, rfl, fown_nil _ _, Below.refl _ _⟩
  | some x =>
    have hb0 : Below w.heap.size w (w.alloc (.cells #[] 48)) := (Below.refl _ _).alloc (Nat.le_refl _) _
    have HO0 := hide (fown_empty w)
    have HV0 := hide (hv.below hb0 (Nat.le_refl _))
    have HB0 := hide hb0
    clear hv hb0
    go_enter Tryz.func27, Tryz.ntmps27
    go_wp2_with (at_builtin; refine wpList_append_flds rfl (.tmp 5) (.tmp 6) rfl w.heap.size _ [] rfl (unhide HO0) (some x) c fs rfl (unhide HV0) (by simp; omega) (unhide HB0).size ?_; intro v' w5 own5 b5; have HO5 := hide own5; have HB5 := hide ((unhide HB0).trans b5); clear own5 b5)
    go_ret
    exact ⟨_, rfl, by simpa using unhide HO5, unhide HB5⟩

end Go.Proofs.YtingpmgpjmlioaaGreatDoor
