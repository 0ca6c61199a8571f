/-
  The walk of LeaseRenews, out of the contracts.
-/
import Derived.Test.YtbcelelmckkaoaaKnown
import Derived.Test.YtbcelelmckkaoaaTurn
namespace Go.Proofs.Ytbcelelmckkaoaa
open Go.RowKit
set_option linter.unusedVariables false

set_option maxRecDepth 100000 in
set_option maxHeartbeats 4000000 in
theorem leaseRenews_walk (e : Nat) (h : Int) (u : Nat) (m : Int) (now : Nat) (who : Int) (ep n : Nat) (md : Int) (w : World) (he : e < 4294967296) (hu : u < 18446744073709551616) (hnow : now < 18446744073709551616) (hwho : -9223372036854775808 ≤ who ∧ who < 9223372036854775808) (hep : ep < 4294967296) (hn : n < 18446744073709551616) (hmd : -9223372036854775808 ≤ md ∧ md < 9223372036854775808) :
    Calls Try.prog 5 #[.agg #[.int .u32 (e : Int), .int .i64 h, .int .u64 (u : Int), .int .i64 m], .int .u64 (now : Int), .int .i64 who, .int .u32 (ep : Int), .int .u64 (n : Int), .int .i64 md] w fun x w' => x = .returned (.bool true) ∧ Below w.heap.size w w' := by
  have HB := Lib.hid (below1 w (.cells #[.int .u32 (e : Int), .int .i64 h, .int .u64 (u : Int), .int .i64 m] 25))
  have HL := Lib.hid (Lies.made w 25 #[.int .u32 (e : Int), .int .i64 h, .int .u64 (u : Int), .int .i64 m])
  have GD := guard25
  have KN := fun W => Lib.hid (known_any W)
  obtain ⟨⟨E, H, U, M, c⟩, hS⟩ : ∃ a : Ans, rnS e h u m now who ep n = a := ⟨_, rfl⟩
  obtain ⟨⟨F, I, V, N, d⟩, hT⟩ : ∃ a : Ans, tnS e h u m now who ep md = a := ⟨_, rfl⟩
  have C1 := fun W => Lib.hid (renew_any e h u m now who ep n W E H U M c hS hu hnow)
  have C2 := fun W => Lib.hid (rrenew_any e h u m now who ep n W E H U M c hS hu hnow)
  have C3 := fun W => Lib.hid (turn_any e h u m now who ep md W F I V N d hT)
  have C4 := fun W => Lib.hid (rturn_any e h u m now who ep md W F I V N d hT)
  clear hS hT
  have EQ1 : ∀ W, (binOp .eql 25 (.agg #[.int .u32 (E : Int), .int .i64 H, .int .u64 (U : Int), .int .i64 M]) (.agg #[.int .u32 (E : Int), .int .i64 H, .int .u64 (U : Int), .int .i64 M])).run Try.prog W = .ok (.bool true) W := fun W => by rw [run_eql25]; simp
  have EQ2 : ∀ W, (binOp .eql 25 (.agg #[.int .u32 (F : Int), .int .i64 I, .int .u64 (V : Int), .int .i64 N]) (.agg #[.int .u32 (F : Int), .int .i64 I, .int .u64 (V : Int), .int .i64 N])).run Try.prog W = .ok (.bool true) W := fun W => by rw [run_eql25]; simp
  go_enter Try.func5, Try.ntmps5
  go_wp2_with fail
  with_reducible refine ((C1 _).out).mono ?_
  rintro x w1 ⟨rfl, hb⟩
  have L1_0 := (HL.out.below hb HL.out.lt).alloc (.cells #[.int .u32 (E : Int), .int .i64 H, .int .u64 (U : Int), .int .i64 M] 25)
  obtain ⟨q1_0_0, q1_0_1, q1_0_2, q1_0_3⟩ := L1_0.cells4
  obtain ⟨f1_0_0, f1_0_1, f1_0_2, f1_0_3⟩ := L1_0.free4
  have X1_0 := Lib.hid L1_0
  clear L1_0
  have X1_n := Lib.hid (Lies.made w1 25 #[.int .u32 (E : Int), .int .i64 H, .int .u64 (U : Int), .int .i64 M])
  have B1x := Lib.hid ((HB.out.trans (hb.mono HB.out.size)).alloc (HB.out.trans (hb.mono HB.out.size)).size (.cells #[.int .u32 (E : Int), .int .i64 H, .int .u64 (U : Int), .int .i64 M] 25))
  clear hb
  go_wp2_with fail
  with_reducible refine ((C2 _).out).mono ?_
  rintro x w2 ⟨rfl, hb⟩
  clear q1_0_0 q1_0_1 q1_0_2 q1_0_3 f1_0_0 f1_0_1 f1_0_2 f1_0_3
  have L2_0 := (X1_0.out.below hb X1_0.out.lt).alloc (.cells #[.int .u32 (E : Int), .int .i64 H, .int .u64 (U : Int), .int .i64 M] 25)
  obtain ⟨q2_0_0, q2_0_1, q2_0_2, q2_0_3⟩ := L2_0.cells4
  obtain ⟨f2_0_0, f2_0_1, f2_0_2, f2_0_3⟩ := L2_0.free4
  have X2_0 := Lib.hid L2_0
  clear L2_0
  have L2_1 := (X1_n.out.below hb X1_n.out.lt).alloc (.cells #[.int .u32 (E : Int), .int .i64 H, .int .u64 (U : Int), .int .i64 M] 25)
  obtain ⟨q2_1_0, q2_1_1, q2_1_2, q2_1_3⟩ := L2_1.cells4
  obtain ⟨f2_1_0, f2_1_1, f2_1_2, f2_1_3⟩ := L2_1.free4
  have X2_1 := Lib.hid L2_1
  clear L2_1
  have X2_n := Lib.hid (Lies.made w2 25 #[.int .u32 (E : Int), .int .i64 H, .int .u64 (U : Int), .int .i64 M])
  have B2x := Lib.hid ((B1x.out.trans (hb.mono B1x.out.size)).alloc (B1x.out.trans (hb.mono B1x.out.size)).size (.cells #[.int .u32 (E : Int), .int .i64 H, .int .u64 (U : Int), .int .i64 M] 25))
  clear hb
  go_wp2_with fail
  with_reducible refine ((C3 _).out).mono ?_
  rintro x w3 ⟨rfl, hb⟩
  clear q2_0_0 q2_0_1 q2_0_2 q2_0_3 f2_0_0 f2_0_1 f2_0_2 f2_0_3 q2_1_0 q2_1_1 q2_1_2 q2_1_3 f2_1_0 f2_1_1 f2_1_2 f2_1_3
  have L3_0 := (X2_0.out.below hb X2_0.out.lt).alloc (.cells #[.int .u32 (F : Int), .int .i64 I, .int .u64 (V : Int), .int .i64 N] 25)
  obtain ⟨q3_0_0, q3_0_1, q3_0_2, q3_0_3⟩ := L3_0.cells4
  obtain ⟨f3_0_0, f3_0_1, f3_0_2, f3_0_3⟩ := L3_0.free4
  have X3_0 := Lib.hid L3_0
  clear L3_0
  have L3_1 := (X2_1.out.below hb X2_1.out.lt).alloc (.cells #[.int .u32 (F : Int), .int .i64 I, .int .u64 (V : Int), .int .i64 N] 25)
  obtain ⟨q3_1_0, q3_1_1, q3_1_2, q3_1_3⟩ := L3_1.cells4
  obtain ⟨f3_1_0, f3_1_1, f3_1_2, f3_1_3⟩ := L3_1.free4
  have X3_1 := Lib.hid L3_1
  clear L3_1
  have L3_2 := (X2_n.out.below hb X2_n.out.lt).alloc (.cells #[.int .u32 (F : Int), .int .i64 I, .int .u64 (V : Int), .int .i64 N] 25)
  obtain ⟨q3_2_0, q3_2_1, q3_2_2, q3_2_3⟩ := L3_2.cells4
  obtain ⟨f3_2_0, f3_2_1, f3_2_2, f3_2_3⟩ := L3_2.free4
  have X3_2 := Lib.hid L3_2
  clear L3_2
  have X3_n := Lib.hid (Lies.made w3 25 #[.int .u32 (F : Int), .int .i64 I, .int .u64 (V : Int), .int .i64 N])
  have B3x := Lib.hid ((B2x.out.trans (hb.mono B2x.out.size)).alloc (B2x.out.trans (hb.mono B2x.out.size)).size (.cells #[.int .u32 (F : Int), .int .i64 I, .int .u64 (V : Int), .int .i64 N] 25))
  clear hb
  go_wp2_with fail
  with_reducible refine ((C4 _).out).mono ?_
  rintro x w4 ⟨rfl, hb⟩
  clear q3_0_0 q3_0_1 q3_0_2 q3_0_3 f3_0_0 f3_0_1 f3_0_2 f3_0_3 q3_1_0 q3_1_1 q3_1_2 q3_1_3 f3_1_0 f3_1_1 f3_1_2 f3_1_3 q3_2_0 q3_2_1 q3_2_2 q3_2_3 f3_2_0 f3_2_1 f3_2_2 f3_2_3
  have L4_0 := (X3_0.out.below hb X3_0.out.lt).alloc (.cells #[.int .u32 (F : Int), .int .i64 I, .int .u64 (V : Int), .int .i64 N] 25)
  obtain ⟨q4_0_0, q4_0_1, q4_0_2, q4_0_3⟩ := L4_0.cells4
  obtain ⟨f4_0_0, f4_0_1, f4_0_2, f4_0_3⟩ := L4_0.free4
  have X4_0 := Lib.hid L4_0
  clear L4_0
  have L4_1 := (X3_1.out.below hb X3_1.out.lt).alloc (.cells #[.int .u32 (F : Int), .int .i64 I, .int .u64 (V : Int), .int .i64 N] 25)
  obtain ⟨q4_1_0, q4_1_1, q4_1_2, q4_1_3⟩ := L4_1.cells4
  obtain ⟨f4_1_0, f4_1_1, f4_1_2, f4_1_3⟩ := L4_1.free4
  have X4_1 := Lib.hid L4_1
  clear L4_1
  have L4_2 := (X3_2.out.below hb X3_2.out.lt).alloc (.cells #[.int .u32 (F : Int), .int .i64 I, .int .u64 (V : Int), .int .i64 N] 25)
  obtain ⟨q4_2_0, q4_2_1, q4_2_2, q4_2_3⟩ := L4_2.cells4
  obtain ⟨f4_2_0, f4_2_1, f4_2_2, f4_2_3⟩ := L4_2.free4
  have X4_2 := Lib.hid L4_2
  clear L4_2
  have L4_3 := (X3_n.out.below hb X3_n.out.lt).alloc (.cells #[.int .u32 (F : Int), .int .i64 I, .int .u64 (V : Int), .int .i64 N] 25)
  obtain ⟨q4_3_0, q4_3_1, q4_3_2, q4_3_3⟩ := L4_3.cells4
  obtain ⟨f4_3_0, f4_3_1, f4_3_2, f4_3_3⟩ := L4_3.free4
  have X4_3 := Lib.hid L4_3
  clear L4_3
  have X4_n := Lib.hid (Lies.made w4 25 #[.int .u32 (F : Int), .int .i64 I, .int .u64 (V : Int), .int .i64 N])
  have B4x := Lib.hid ((B3x.out.trans (hb.mono B3x.out.size)).alloc (B3x.out.trans (hb.mono B3x.out.size)).size (.cells #[.int .u32 (F : Int), .int .i64 I, .int .u64 (V : Int), .int .i64 N] 25))
  clear hb
  go_wp2_with fail
  with_reducible refine ((KN _).out).mono ?_
  rintro x w5 ⟨rfl, hb⟩
  clear q4_0_0 q4_0_1 q4_0_2 q4_0_3 f4_0_0 f4_0_1 f4_0_2 f4_0_3 q4_1_0 q4_1_1 q4_1_2 q4_1_3 f4_1_0 f4_1_1 f4_1_2 f4_1_3 q4_2_0 q4_2_1 q4_2_2 q4_2_3 f4_2_0 f4_2_1 f4_2_2 f4_2_3 q4_3_0 q4_3_1 q4_3_2 q4_3_3 f4_3_0 f4_3_1 f4_3_2 f4_3_3
  have L5_0 := X4_0.out.below hb X4_0.out.lt
  obtain ⟨q5_0_0, q5_0_1, q5_0_2, q5_0_3⟩ := L5_0.cells4
  obtain ⟨f5_0_0, f5_0_1, f5_0_2, f5_0_3⟩ := L5_0.free4
  have X5_0 := Lib.hid L5_0
  clear L5_0
  have L5_1 := X4_1.out.below hb X4_1.out.lt
  obtain ⟨q5_1_0, q5_1_1, q5_1_2, q5_1_3⟩ := L5_1.cells4
  obtain ⟨f5_1_0, f5_1_1, f5_1_2, f5_1_3⟩ := L5_1.free4
  have X5_1 := Lib.hid L5_1
  clear L5_1
  have L5_2 := X4_2.out.below hb X4_2.out.lt
  obtain ⟨q5_2_0, q5_2_1, q5_2_2, q5_2_3⟩ := L5_2.cells4
  obtain ⟨f5_2_0, f5_2_1, f5_2_2, f5_2_3⟩ := L5_2.free4
  have X5_2 := Lib.hid L5_2
  clear L5_2
  have L5_3 := X4_3.out.below hb X4_3.out.lt
  obtain ⟨q5_3_0, q5_3_1, q5_3_2, q5_3_3⟩ := L5_3.cells4
  obtain ⟨f5_3_0, f5_3_1, f5_3_2, f5_3_3⟩ := L5_3.free4
  have X5_3 := Lib.hid L5_3
  clear L5_3
  have L5_4 := X4_n.out.below hb X4_n.out.lt
  obtain ⟨q5_4_0, q5_4_1, q5_4_2, q5_4_3⟩ := L5_4.cells4
  obtain ⟨f5_4_0, f5_4_1, f5_4_2, f5_4_3⟩ := L5_4.free4
  have X5_4 := Lib.hid L5_4
  clear L5_4
  have B5x := Lib.hid (B4x.out.trans (hb.mono B4x.out.size))
  clear hb
  go_wp2
  go_ret
  exact ⟨rfl, B5x.out⟩

end Go.Proofs.Ytbcelelmckkaoaa
