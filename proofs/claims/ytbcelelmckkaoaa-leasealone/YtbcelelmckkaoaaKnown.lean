/-
  The contract of known: the chapter's example.
-/
import Derived.Test.YtbcelelmckkaoaaEq
import Derived.Test.YtbcelelmckkaoaaGrant
import Derived.Test.YtbcelelmckkaoaaRenew
namespace Go.Proofs.Ytbcelelmckkaoaa
open Go.RowKit
set_option linter.unusedVariables false

set_option maxRecDepth 100000 in
set_option maxHeartbeats 4000000 in
theorem known_any (w : World) : Calls Try.prog 16 #[] w fun x w' => x = .returned (.bool true) ∧ Below w.heap.size w w' := by
  have B0 := Lib.hid (Below.refl w.heap.size w)
  have C1 : ∀ W, Hid (Calls Try.prog 17 #[.agg #[.int .u32 0, .int .i64 0, .int .u64 0, .int .i64 1], .int .u64 10, .int .i64 1, .int .u64 5, .int .u64 2] W fun x w' => x = .returned (.tuple #[.agg #[.int .u32 1, .int .i64 1, .int .u64 15, .int .i64 1], .int .i64 0]) ∧ Below W.heap.size W w') := fun W => Lib.hid (grant_any 0 0 0 1 10 1 5 2 W 1 1 15 1 0 (by decide +kernel) (by decide) (by decide) (by decide) (by decide))
  have C2 : ∀ W, Hid (Calls Try.prog 19 #[.agg #[.int .u32 1, .int .i64 1, .int .u64 15, .int .i64 1], .int .u64 15, .int .i64 1, .int .u32 1, .int .u64 5] W fun x w' => x = .returned (.tuple #[.agg #[.int .u32 1, .int .i64 1, .int .u64 20, .int .i64 1], .int .i64 0]) ∧ Below W.heap.size W w') := fun W => Lib.hid (renew_any 1 1 15 1 15 1 1 5 W 1 1 20 1 0 (by decide +kernel) (by decide) (by decide))
  have C3 : ∀ W, Hid (Calls Try.prog 19 #[.agg #[.int .u32 1, .int .i64 1, .int .u64 20, .int .i64 1], .int .u64 21, .int .i64 1, .int .u32 1, .int .u64 5] W fun x w' => x = .returned (.tuple #[.agg #[.int .u32 0, .int .i64 0, .int .u64 0, .int .i64 0], .int .i64 73]) ∧ Below W.heap.size W w') := fun W => Lib.hid (renew_any 1 1 20 1 21 1 1 5 W 0 0 0 0 73 (by decide +kernel) (by decide) (by decide))
  have C4 : ∀ W, Hid (Calls Try.prog 17 #[.agg #[.int .u32 1, .int .i64 1, .int .u64 20, .int .i64 1], .int .u64 22, .int .i64 2, .int .u64 5, .int .u64 2] W fun x w' => x = .returned (.tuple #[.agg #[.int .u32 0, .int .i64 0, .int .u64 0, .int .i64 0], .int .i64 70]) ∧ Below W.heap.size W w') := fun W => Lib.hid (grant_any 1 1 20 1 22 2 5 2 W 0 0 0 0 70 (by decide +kernel) (by decide) (by decide) (by decide) (by decide))
  have C5 : ∀ W, Hid (Calls Try.prog 17 #[.agg #[.int .u32 1, .int .i64 1, .int .u64 20, .int .i64 1], .int .u64 23, .int .i64 2, .int .u64 5, .int .u64 2] W fun x w' => x = .returned (.tuple #[.agg #[.int .u32 2, .int .i64 2, .int .u64 28, .int .i64 1], .int .i64 0]) ∧ Below W.heap.size W w') := fun W => Lib.hid (grant_any 1 1 20 1 23 2 5 2 W 2 2 28 1 0 (by decide +kernel) (by decide) (by decide) (by decide) (by decide))
  have C6 : ∀ W, Hid (Calls Try.prog 14 #[.agg #[.int .u32 2, .int .i64 2, .int .u64 28, .int .i64 1], .int .i64 2, .int .u64 28] W fun x w' => x = .returned (.bool true) ∧ Below W.heap.size W w') := fun W => Lib.hid (by have := holds_any 2 2 28 1 2 28 W; rw [show hoS 2 2 28 1 2 28 = true from by decide +kernel] at this; exact this)
  have C7 : ∀ W, Hid (Calls Try.prog 14 #[.agg #[.int .u32 2, .int .i64 2, .int .u64 28, .int .i64 1], .int .i64 2, .int .u64 29] W fun x w' => x = .returned (.bool false) ∧ Below W.heap.size W w') := fun W => Lib.hid (by have := holds_any 2 2 28 1 2 29 W; rw [show hoS 2 2 28 1 2 29 = false from by decide +kernel] at this; exact this)
  have EQ : ∀ W, (binOp .eql 25 (.agg #[.int .u32 1, .int .i64 1, .int .u64 15, .int .i64 1]) (.agg #[.int .u32 1, .int .i64 1, .int .u64 15, .int .i64 1])).run Try.prog W = .ok (.bool true) W := fun W => run_eql25 1 1 1 1 15 15 1 1 W
  have GD := guard25
  go_enter Try.func16, Try.ntmps16
  go_wp2_with fail
  with_reducible refine (empty_any _).mono ?_
  rintro x w1 ⟨rfl, hb⟩
  have B1x := Lib.hid (B0.out.trans (hb.mono B0.out.size))
  clear hb
  go_wp2_with fail
  with_reducible refine ((C1 _).out).mono ?_
  rintro x w2 ⟨rfl, hb⟩
  have X2_n := Lib.hid (Lies.made w2 25 #[.int .u32 1, .int .i64 1, .int .u64 15, .int .i64 1])
  have B2x := Lib.hid ((B1x.out.trans (hb.mono B1x.out.size)).alloc (B1x.out.trans (hb.mono B1x.out.size)).size (.cells #[.int .u32 1, .int .i64 1, .int .u64 15, .int .i64 1] 25))
  clear hb
  go_wp2_with fail
  with_reducible refine ((C2 _).out).mono ?_
  rintro x w3 ⟨rfl, hb⟩
  have L3_0 := (X2_n.out.below hb X2_n.out.lt).alloc (.cells #[.int .u32 1, .int .i64 1, .int .u64 20, .int .i64 1] 25)
  obtain ⟨q3_0_0, q3_0_1, q3_0_2, q3_0_3⟩ := L3_0.cells4
  obtain ⟨f3_0_0, f3_0_1, f3_0_2, f3_0_3⟩ := L3_0.free4
  have X3_0 := Lib.hid L3_0
  clear L3_0
  have X3_n := Lib.hid (Lies.made w3 25 #[.int .u32 1, .int .i64 1, .int .u64 20, .int .i64 1])
  have B3x := Lib.hid ((B2x.out.trans (hb.mono B2x.out.size)).alloc (B2x.out.trans (hb.mono B2x.out.size)).size (.cells #[.int .u32 1, .int .i64 1, .int .u64 20, .int .i64 1] 25))
  clear hb
  go_wp2_with fail
  with_reducible refine ((C3 _).out).mono ?_
  rintro x w4 ⟨rfl, hb⟩
  clear q3_0_0 q3_0_1 q3_0_2 q3_0_3 f3_0_0 f3_0_1 f3_0_2 f3_0_3
  have L4_0 := (X3_0.out.below hb X3_0.out.lt).alloc (.cells #[.int .u32 0, .int .i64 0, .int .u64 0, .int .i64 0] 25)
  obtain ⟨q4_0_0, q4_0_1, q4_0_2, q4_0_3⟩ := L4_0.cells4
  obtain ⟨f4_0_0, f4_0_1, f4_0_2, f4_0_3⟩ := L4_0.free4
  have X4_0 := Lib.hid L4_0
  clear L4_0
  have L4_1 := (X3_n.out.below hb X3_n.out.lt).alloc (.cells #[.int .u32 0, .int .i64 0, .int .u64 0, .int .i64 0] 25)
  obtain ⟨q4_1_0, q4_1_1, q4_1_2, q4_1_3⟩ := L4_1.cells4
  obtain ⟨f4_1_0, f4_1_1, f4_1_2, f4_1_3⟩ := L4_1.free4
  have X4_1 := Lib.hid L4_1
  clear L4_1
  have X4_n := Lib.hid (Lies.made w4 25 #[.int .u32 0, .int .i64 0, .int .u64 0, .int .i64 0])
  have B4x := Lib.hid ((B3x.out.trans (hb.mono B3x.out.size)).alloc (B3x.out.trans (hb.mono B3x.out.size)).size (.cells #[.int .u32 0, .int .i64 0, .int .u64 0, .int .i64 0] 25))
  clear hb
  go_wp2_with fail
  with_reducible refine ((C4 _).out).mono ?_
  rintro x w5 ⟨rfl, hb⟩
  clear q4_0_0 q4_0_1 q4_0_2 q4_0_3 f4_0_0 f4_0_1 f4_0_2 f4_0_3 q4_1_0 q4_1_1 q4_1_2 q4_1_3 f4_1_0 f4_1_1 f4_1_2 f4_1_3
  have L5_0 := (X4_0.out.below hb X4_0.out.lt).alloc (.cells #[.int .u32 0, .int .i64 0, .int .u64 0, .int .i64 0] 25)
  obtain ⟨q5_0_0, q5_0_1, q5_0_2, q5_0_3⟩ := L5_0.cells4
  obtain ⟨f5_0_0, f5_0_1, f5_0_2, f5_0_3⟩ := L5_0.free4
  have X5_0 := Lib.hid L5_0
  clear L5_0
  have L5_1 := (X4_1.out.below hb X4_1.out.lt).alloc (.cells #[.int .u32 0, .int .i64 0, .int .u64 0, .int .i64 0] 25)
  obtain ⟨q5_1_0, q5_1_1, q5_1_2, q5_1_3⟩ := L5_1.cells4
  obtain ⟨f5_1_0, f5_1_1, f5_1_2, f5_1_3⟩ := L5_1.free4
  have X5_1 := Lib.hid L5_1
  clear L5_1
  have L5_2 := (X4_n.out.below hb X4_n.out.lt).alloc (.cells #[.int .u32 0, .int .i64 0, .int .u64 0, .int .i64 0] 25)
  obtain ⟨q5_2_0, q5_2_1, q5_2_2, q5_2_3⟩ := L5_2.cells4
  obtain ⟨f5_2_0, f5_2_1, f5_2_2, f5_2_3⟩ := L5_2.free4
  have X5_2 := Lib.hid L5_2
  clear L5_2
  have X5_n := Lib.hid (Lies.made w5 25 #[.int .u32 0, .int .i64 0, .int .u64 0, .int .i64 0])
  have B5x := Lib.hid ((B4x.out.trans (hb.mono B4x.out.size)).alloc (B4x.out.trans (hb.mono B4x.out.size)).size (.cells #[.int .u32 0, .int .i64 0, .int .u64 0, .int .i64 0] 25))
  clear hb
  go_wp2_with fail
  with_reducible refine ((C5 _).out).mono ?_
  rintro x w6 ⟨rfl, hb⟩
  clear q5_0_0 q5_0_1 q5_0_2 q5_0_3 f5_0_0 f5_0_1 f5_0_2 f5_0_3 q5_1_0 q5_1_1 q5_1_2 q5_1_3 f5_1_0 f5_1_1 f5_1_2 f5_1_3 q5_2_0 q5_2_1 q5_2_2 q5_2_3 f5_2_0 f5_2_1 f5_2_2 f5_2_3
  have L6_0 := (X5_0.out.below hb X5_0.out.lt).alloc (.cells #[.int .u32 2, .int .i64 2, .int .u64 28, .int .i64 1] 25)
  obtain ⟨q6_0_0, q6_0_1, q6_0_2, q6_0_3⟩ := L6_0.cells4
  obtain ⟨f6_0_0, f6_0_1, f6_0_2, f6_0_3⟩ := L6_0.free4
  have X6_0 := Lib.hid L6_0
  clear L6_0
  have L6_1 := (X5_1.out.below hb X5_1.out.lt).alloc (.cells #[.int .u32 2, .int .i64 2, .int .u64 28, .int .i64 1] 25)
  obtain ⟨q6_1_0, q6_1_1, q6_1_2, q6_1_3⟩ := L6_1.cells4
  obtain ⟨f6_1_0, f6_1_1, f6_1_2, f6_1_3⟩ := L6_1.free4
  have X6_1 := Lib.hid L6_1
  clear L6_1
  have L6_2 := (X5_2.out.below hb X5_2.out.lt).alloc (.cells #[.int .u32 2, .int .i64 2, .int .u64 28, .int .i64 1] 25)
  obtain ⟨q6_2_0, q6_2_1, q6_2_2, q6_2_3⟩ := L6_2.cells4
  obtain ⟨f6_2_0, f6_2_1, f6_2_2, f6_2_3⟩ := L6_2.free4
  have X6_2 := Lib.hid L6_2
  clear L6_2
  have L6_3 := (X5_n.out.below hb X5_n.out.lt).alloc (.cells #[.int .u32 2, .int .i64 2, .int .u64 28, .int .i64 1] 25)
  obtain ⟨q6_3_0, q6_3_1, q6_3_2, q6_3_3⟩ := L6_3.cells4
  obtain ⟨f6_3_0, f6_3_1, f6_3_2, f6_3_3⟩ := L6_3.free4
  have X6_3 := Lib.hid L6_3
  clear L6_3
  have X6_n := Lib.hid (Lies.made w6 25 #[.int .u32 2, .int .i64 2, .int .u64 28, .int .i64 1])
  have B6x := Lib.hid ((B5x.out.trans (hb.mono B5x.out.size)).alloc (B5x.out.trans (hb.mono B5x.out.size)).size (.cells #[.int .u32 2, .int .i64 2, .int .u64 28, .int .i64 1] 25))
  clear hb
  go_wp2_with fail
  with_reducible refine ((C6 _).out).mono ?_
  rintro x w7 ⟨rfl, hb⟩
  clear q6_0_0 q6_0_1 q6_0_2 q6_0_3 f6_0_0 f6_0_1 f6_0_2 f6_0_3 q6_1_0 q6_1_1 q6_1_2 q6_1_3 f6_1_0 f6_1_1 f6_1_2 f6_1_3 q6_2_0 q6_2_1 q6_2_2 q6_2_3 f6_2_0 f6_2_1 f6_2_2 f6_2_3 q6_3_0 q6_3_1 q6_3_2 q6_3_3 f6_3_0 f6_3_1 f6_3_2 f6_3_3
  have L7_0 := X6_0.out.below hb X6_0.out.lt
  obtain ⟨q7_0_0, q7_0_1, q7_0_2, q7_0_3⟩ := L7_0.cells4
  obtain ⟨f7_0_0, f7_0_1, f7_0_2, f7_0_3⟩ := L7_0.free4
  have X7_0 := Lib.hid L7_0
  clear L7_0
  have L7_1 := X6_1.out.below hb X6_1.out.lt
  obtain ⟨q7_1_0, q7_1_1, q7_1_2, q7_1_3⟩ := L7_1.cells4
  obtain ⟨f7_1_0, f7_1_1, f7_1_2, f7_1_3⟩ := L7_1.free4
  have X7_1 := Lib.hid L7_1
  clear L7_1
  have L7_2 := X6_2.out.below hb X6_2.out.lt
  obtain ⟨q7_2_0, q7_2_1, q7_2_2, q7_2_3⟩ := L7_2.cells4
  obtain ⟨f7_2_0, f7_2_1, f7_2_2, f7_2_3⟩ := L7_2.free4
  have X7_2 := Lib.hid L7_2
  clear L7_2
  have L7_3 := X6_3.out.below hb X6_3.out.lt
  obtain ⟨q7_3_0, q7_3_1, q7_3_2, q7_3_3⟩ := L7_3.cells4
  obtain ⟨f7_3_0, f7_3_1, f7_3_2, f7_3_3⟩ := L7_3.free4
  have X7_3 := Lib.hid L7_3
  clear L7_3
  have L7_4 := X6_n.out.below hb X6_n.out.lt
  obtain ⟨q7_4_0, q7_4_1, q7_4_2, q7_4_3⟩ := L7_4.cells4
  obtain ⟨f7_4_0, f7_4_1, f7_4_2, f7_4_3⟩ := L7_4.free4
  have X7_4 := Lib.hid L7_4
  clear L7_4
  have B7x := Lib.hid (B6x.out.trans (hb.mono B6x.out.size))
  clear hb
  go_wp2_with fail
  with_reducible refine ((C7 _).out).mono ?_
  rintro x w8 ⟨rfl, hb⟩
  clear q7_0_0 q7_0_1 q7_0_2 q7_0_3 f7_0_0 f7_0_1 f7_0_2 f7_0_3 q7_1_0 q7_1_1 q7_1_2 q7_1_3 f7_1_0 f7_1_1 f7_1_2 f7_1_3 q7_2_0 q7_2_1 q7_2_2 q7_2_3 f7_2_0 f7_2_1 f7_2_2 f7_2_3 q7_3_0 q7_3_1 q7_3_2 q7_3_3 f7_3_0 f7_3_1 f7_3_2 f7_3_3 q7_4_0 q7_4_1 q7_4_2 q7_4_3 f7_4_0 f7_4_1 f7_4_2 f7_4_3
  have L8_0 := X7_0.out.below hb X7_0.out.lt
  obtain ⟨q8_0_0, q8_0_1, q8_0_2, q8_0_3⟩ := L8_0.cells4
  obtain ⟨f8_0_0, f8_0_1, f8_0_2, f8_0_3⟩ := L8_0.free4
  have X8_0 := Lib.hid L8_0
  clear L8_0
  have L8_1 := X7_1.out.below hb X7_1.out.lt
  obtain ⟨q8_1_0, q8_1_1, q8_1_2, q8_1_3⟩ := L8_1.cells4
  obtain ⟨f8_1_0, f8_1_1, f8_1_2, f8_1_3⟩ := L8_1.free4
  have X8_1 := Lib.hid L8_1
  clear L8_1
  have L8_2 := X7_2.out.below hb X7_2.out.lt
  obtain ⟨q8_2_0, q8_2_1, q8_2_2, q8_2_3⟩ := L8_2.cells4
  obtain ⟨f8_2_0, f8_2_1, f8_2_2, f8_2_3⟩ := L8_2.free4
  have X8_2 := Lib.hid L8_2
  clear L8_2
  have L8_3 := X7_3.out.below hb X7_3.out.lt
  obtain ⟨q8_3_0, q8_3_1, q8_3_2, q8_3_3⟩ := L8_3.cells4
  obtain ⟨f8_3_0, f8_3_1, f8_3_2, f8_3_3⟩ := L8_3.free4
  have X8_3 := Lib.hid L8_3
  clear L8_3
  have L8_4 := X7_4.out.below hb X7_4.out.lt
  obtain ⟨q8_4_0, q8_4_1, q8_4_2, q8_4_3⟩ := L8_4.cells4
  obtain ⟨f8_4_0, f8_4_1, f8_4_2, f8_4_3⟩ := L8_4.free4
  have X8_4 := Lib.hid L8_4
  clear L8_4
  have B8x := Lib.hid (B7x.out.trans (hb.mono B7x.out.size))
  clear hb
  go_wp2
  go_ret
  exact ⟨rfl, B8x.out⟩

end Go.Proofs.Ytbcelelmckkaoaa
