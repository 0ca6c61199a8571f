/-
  The walk of LeaseGrants, out of the contracts.
-/
import Derived.Test.YtbcelelmckkaoaaKnown
namespace Go.Proofs.Ytbcelelmckkaoaa
open Go.RowKit
set_option linter.unusedVariables false

set_option maxRecDepth 100000 in
set_option maxHeartbeats 4000000 in
theorem leaseGrants_walk (e : Nat) (h : Int) (u : Nat) (m : Int) (now : Nat) (who : Int) (n g : Nat) (w : World) (he : e < 4294967296) (hu : u < 18446744073709551616) (hnow : now < 18446744073709551616) (hwho : -9223372036854775808 ≤ who ∧ who < 9223372036854775808) (hn : n < 18446744073709551616) (hg : g < 18446744073709551616) :
    Calls Try.prog 4 #[.agg #[.int .u32 (e : Int), .int .i64 h, .int .u64 (u : Int), .int .i64 m], .int .u64 (now : Int), .int .i64 who, .int .u64 (n : Int), .int .u64 (g : Int)] w fun x w' => x = .returned (.bool true) ∧ Below w.heap.size w w' := by
  have HB := Lib.hid (below1 w (.cells #[.int .u32 (e : Int), .int .i64 h, .int .u64 (u : Int), .int .i64 m] 25))
  have HL := Lib.hid (Lies.made w 25 #[.int .u32 (e : Int), .int .i64 h, .int .u64 (u : Int), .int .i64 m])
  have GD := guard25
  have KN := fun W => Lib.hid (known_any W)
  obtain ⟨⟨E, H, U, M, c⟩, hS⟩ : ∃ a : Ans, grS e h u m now who n g = a := ⟨_, rfl⟩
  have C1 := fun W => Lib.hid (grant_any e h u m now who n g W E H U M c hS he hnow hn hg)
  have C2 := fun W => Lib.hid (rgrant_any e h u m now who n g W E H U M c hS he hnow hn hg)
  clear hS
  have EQ1 : ∀ W, (binOp .eql 25 (.agg #[.int .u32 (E : Int), .int .i64 H, .int .u64 (U : Int), .int .i64 M]) (.agg #[.int .u32 (E : Int), .int .i64 H, .int .u64 (U : Int), .int .i64 M])).run Try.prog W = .ok (.bool true) W := fun W => by rw [run_eql25]; simp
  go_enter Try.func4, Try.ntmps4
  go_wp2_with fail
  with_reducible refine ((C1 _).out).mono ?_
  rintro x w1 ⟨rfl, hb⟩
  have L1_0 := (HL.out.below hb HL.out.lt).alloc (.cells #[.int .u32 (E : Int), .int .i64 H, .int .u64 (U : Int), .int .i64 M] 25)
  obtain ⟨q1_0_0, q1_0_1, q1_0_2, q1_0_3⟩ := L1_0.cells4
  obtain ⟨f1_0_0, f1_0_1, f1_0_2, f1_0_3⟩ := L1_0.free4
  have X1_0 := Lib.hid L1_0
  clear L1_0
  have X1_n := Lib.hid (Lies.made w1 25 #[.int .u32 (E : Int), .int .i64 H, .int .u64 (U : Int), .int .i64 M])
  have B1x := Lib.hid ((HB.out.trans (hb.mono HB.out.size)).alloc (HB.out.trans (hb.mono HB.out.size)).size (.cells #[.int .u32 (E : Int), .int .i64 H, .int .u64 (U : Int), .int .i64 M] 25))
  clear hb
  go_wp2_with fail
  with_reducible refine ((C2 _).out).mono ?_
  rintro x w2 ⟨rfl, hb⟩
  clear q1_0_0 q1_0_1 q1_0_2 q1_0_3 f1_0_0 f1_0_1 f1_0_2 f1_0_3
  have L2_0 := (X1_0.out.below hb X1_0.out.lt).alloc (.cells #[.int .u32 (E : Int), .int .i64 H, .int .u64 (U : Int), .int .i64 M] 25)
  obtain ⟨q2_0_0, q2_0_1, q2_0_2, q2_0_3⟩ := L2_0.cells4
  obtain ⟨f2_0_0, f2_0_1, f2_0_2, f2_0_3⟩ := L2_0.free4
  have X2_0 := Lib.hid L2_0
  clear L2_0
  have L2_1 := (X1_n.out.below hb X1_n.out.lt).alloc (.cells #[.int .u32 (E : Int), .int .i64 H, .int .u64 (U : Int), .int .i64 M] 25)
  obtain ⟨q2_1_0, q2_1_1, q2_1_2, q2_1_3⟩ := L2_1.cells4
  obtain ⟨f2_1_0, f2_1_1, f2_1_2, f2_1_3⟩ := L2_1.free4
  have X2_1 := Lib.hid L2_1
  clear L2_1
  have X2_n := Lib.hid (Lies.made w2 25 #[.int .u32 (E : Int), .int .i64 H, .int .u64 (U : Int), .int .i64 M])
  have B2x := Lib.hid ((B1x.out.trans (hb.mono B1x.out.size)).alloc (B1x.out.trans (hb.mono B1x.out.size)).size (.cells #[.int .u32 (E : Int), .int .i64 H, .int .u64 (U : Int), .int .i64 M] 25))
  clear hb
  go_wp2_with fail
  with_reducible refine ((KN _).out).mono ?_
  rintro x w3 ⟨rfl, hb⟩
  clear q2_0_0 q2_0_1 q2_0_2 q2_0_3 f2_0_0 f2_0_1 f2_0_2 f2_0_3 q2_1_0 q2_1_1 q2_1_2 q2_1_3 f2_1_0 f2_1_1 f2_1_2 f2_1_3
  have L3_0 := X2_0.out.below hb X2_0.out.lt
  obtain ⟨q3_0_0, q3_0_1, q3_0_2, q3_0_3⟩ := L3_0.cells4
  obtain ⟨f3_0_0, f3_0_1, f3_0_2, f3_0_3⟩ := L3_0.free4
  have X3_0 := Lib.hid L3_0
  clear L3_0
  have L3_1 := X2_1.out.below hb X2_1.out.lt
  obtain ⟨q3_1_0, q3_1_1, q3_1_2, q3_1_3⟩ := L3_1.cells4
  obtain ⟨f3_1_0, f3_1_1, f3_1_2, f3_1_3⟩ := L3_1.free4
  have X3_1 := Lib.hid L3_1
  clear L3_1
  have L3_2 := X2_n.out.below hb X2_n.out.lt
  obtain ⟨q3_2_0, q3_2_1, q3_2_2, q3_2_3⟩ := L3_2.cells4
  obtain ⟨f3_2_0, f3_2_1, f3_2_2, f3_2_3⟩ := L3_2.free4
  have X3_2 := Lib.hid L3_2
  clear L3_2
  have B3x := Lib.hid (B2x.out.trans (hb.mono B2x.out.size))
  clear hb
  go_wp2
  go_ret
  exact ⟨rfl, B3x.out⟩

end Go.Proofs.Ytbcelelmckkaoaa
