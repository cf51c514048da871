/-
  DERIVED. awake, at the head of the laws on requests.
-/
import Derived.Test.YtankbanonbmffabGreatDoorRqX
namespace Go.Proofs.YtankbanonbmffabGreatDoor
open Go.RowKit
set_option linter.unusedVariables false

def aw1 : List UInt8 := "POST /c?x HTTP/1.1\r\nHost: h\r\nContent-Length: 3\r\n\r\nabcd".toUTF8.data.toList
set_option maxRecDepth 100000 in
theorem aw_one : qParse [80, 79, 83, 84, 32, 47, 99, 63, 120, 32, 72, 84, 84, 80, 47, 49, 46, 49, 13, 10, 72, 111, 115, 116, 58, 32, 104, 13, 10, 67, 111, 110, 116, 101, 110, 116, 45, 76, 101, 110, 103, 116, 104, 58, 32, 51, 13, 10, 13, 10, 97, 98, 99, 100] = .ok ⟨[80, 79, 83, 84], [47, 99], [120], [([104, 111, 115, 116], [104]), ([99, 111, 110, 116, 101, 110, 116, 45, 108, 101, 110, 103, 116, 104], [51])], [97, 98, 99], false⟩ 53 := by kernel_rfl
theorem aw_two : qParse [71, 69, 84, 32, 47] = .no 0 := by kernel_rfl
theorem aw_three : qParse [71, 69, 84, 32, 47, 10] = .no 400 := by kernel_rfl

set_option maxRecDepth 20000 in
set_option maxHeartbeats 4000000 in
theorem awake_go (w : World) : Calls Tryz.prog 4 #[] w fun e w' => e = .returned (.bool true) ∧ Below w.heap.size w w' := by
  have h1 : Hid (∀ W, Calls Tryz.prog 5 #[qv [80, 79, 83, 84, 32, 47, 99, 63, 120, 32, 72, 84, 84, 80, 47, 49, 46, 49, 13, 10, 72, 111, 115, 116, 58, 32, 104, 13, 10, 67, 111, 110, 116, 101, 110, 116, 45, 76, 101, 110, 103, 116, 104, 58, 32, 51, 13, 10, 13, 10, 97, 98, 99, 100]] W fun e w' => ∃ a n c, e = .returned (.tuple #[.agg #[qv [80, 79, 83, 84], qv [47, 99], qv [120], .slice a n c, qv [97, 98, 99], .bool false], .int .i64 53, .int .i64 200]) ∧ Below W.heap.size W w') := hide (fun W => (parse_any _ W (by decide)).mono fun e w' h => by
    rw [aw_one] at h
    obtain ⟨⟨hv, h1, h2⟩, h3⟩ := h
    obtain ⟨a, c, rfl⟩ := h2.sl
    exact ⟨a, _, c, h1, h3⟩)
  have h2 : Hid (∀ W, Calls Tryz.prog 5 #[qv [71, 69, 84, 32, 47]] W fun e w' => e = .returned (.tuple #[.agg #[qv [], qv [], qv [], .slice none 0 0, qv [], .bool false], .int .i64 0, .int .i64 0]) ∧ Below W.heap.size W w') := hide (fun W => (parse_any _ W (by decide)).mono fun e w' h => by
    rw [aw_two] at h
    exact h)
  have h3 : Hid (∀ W, Calls Tryz.prog 5 #[qv [71, 69, 84, 32, 47, 10]] W fun e w' => e = .returned (.tuple #[.agg #[qv [], qv [], qv [], .slice none 0 0, qv [], .bool false], .int .i64 0, .int .i64 400]) ∧ Below W.heap.size W w') := hide (fun W => (parse_any _ W (by decide)).mono fun e w' h => by
    rw [aw_three] at h
    exact h)
  go_enter Tryz.func4, Tryz.ntmps4
  go_upto_region 1 with fail
  go_upto_region 2 with (go_at_call 5; refine (unhide h1 _).mono ?_; rintro e w1 ⟨a, n, c, rfl, b1⟩; have HB1 := hide b1; clear b1)
  obtain ⟨b, hb⟩ : ∃ b, b = w1.heap.size := ⟨_, rfl⟩
  have hr := heap_alloc_new w1 (.cells #[qv [80, 79, 83, 84], qv [47, 99], qv [120], .slice a n c, qv [97, 98, 99], .bool false] 27)
  have hbl := (unhide HB1).alloc (unhide HB1).size (.cells #[qv [80, 79, 83, 84], qv [47, 99], qv [120], .slice a n c, qv [97, 98, 99], .bool false] 27)
  have hsz : b < (w1.alloc (.cells #[qv [80, 79, 83, 84], qv [47, 99], qv [120], .slice a n c, qv [97, 98, 99], .bool false] 27)).heap.size := by rw [hb]; simp
  rw [← hb] at hr ⊢
  obtain ⟨W1, hW1⟩ : ∃ W1, W1 = w1.alloc (.cells #[qv [80, 79, 83, 84], qv [47, 99], qv [120], .slice a n c, qv [97, 98, 99], .bool false] 27) := ⟨_, rfl⟩
  rw [← hW1] at hr hbl hsz
  rw [show (w1.alloc (Obj.cells #[qv [80, 79, 83, 84], qv [47, 99], qv [120], .slice a n c, qv [97, 98, 99], .bool false] 27)) = W1 from hW1.symm]
  have HR1 := hide hr
  have HL1 := hide hbl
  have HZ1 := hide hsz
  clear hW1 hr hbl hsz HB1 hb
  go_upto_region 3 with (go_at_call 5; refine (unhide h2 _).mono ?_; rintro e w2 ⟨rfl, b2⟩; have HB2 := hide b2; clear b2)
  have hbl2 : Below W1.heap.size W1 (w2.alloc (.cells #[qv [], qv [], qv [], .slice none 0 0, qv [], .bool false] 27)) := (unhide HB2).alloc (unhide HB2).size _
  obtain ⟨W2, hW2⟩ : ∃ W2, W2 = w2.alloc (.cells #[qv [], qv [], qv [], .slice none 0 0, qv [], .bool false] 27) := ⟨_, rfl⟩
  rw [← hW2] at hbl2
  rw [show (w2.alloc (Obj.cells #[qv [], qv [], qv [], .slice none 0 0, qv [], .bool false] 27)) = W2 from hW2.symm]
  have HL2 := hide hbl2
  clear hW2 hbl2 HB2
  go_upto_region 4 with (go_at_call 5; refine (unhide h3 _).mono ?_; rintro e w3 ⟨rfl, b3⟩; have HB3 := hide b3; clear b3)
  have hbl3 : Below W2.heap.size W2 (w3.alloc (.cells #[qv [], qv [], qv [], .slice none 0 0, qv [], .bool false] 27)) := (unhide HB3).alloc (unhide HB3).size _
  obtain ⟨W3, hW3⟩ : ∃ W3, W3 = w3.alloc (.cells #[qv [], qv [], qv [], .slice none 0 0, qv [], .bool false] 27) := ⟨_, rfl⟩
  rw [← hW3] at hbl3
  rw [show (w3.alloc (Obj.cells #[qv [], qv [], qv [], .slice none 0 0, qv [], .bool false] 27)) = W3 from hW3.symm]
  have hbl13 : Below W1.heap.size W1 W3 := (unhide HL2).trans (hbl3.mono (unhide HL2).size)
  have hr3 := (hbl13.block b (unhide HZ1)).trans (unhide HR1)
  have hall : Below w.heap.size w W3 := (unhide HL1).trans (hbl13.mono (unhide HL1).size)
  have HALL := hide hall
  have c0 : W3.cell? ⟨b, 0, none⟩ = some (qv [80, 79, 83, 84]) := (cell_of_row _ _ _ _ _ _ hr3).trans rfl
  have c1 : W3.cell? ⟨b, 1, none⟩ = some (qv [47, 99]) := (cell_of_row _ _ _ _ _ _ hr3).trans rfl
  have c2 : W3.cell? ⟨b, 2, none⟩ = some (qv [120]) := (cell_of_row _ _ _ _ _ _ hr3).trans rfl
  have c4 : W3.cell? ⟨b, 4, none⟩ = some (qv [97, 98, 99]) := (cell_of_row _ _ _ _ _ _ hr3).trans rfl
  clear hW3 hbl3 HB3 hbl13 hr3 hall HL1 HL2 HR1 HZ1
  go_wp2_with fail
  go_ret
  exact ⟨rfl, unhide HALL⟩
end Go.Proofs.YtankbanonbmffabGreatDoor
