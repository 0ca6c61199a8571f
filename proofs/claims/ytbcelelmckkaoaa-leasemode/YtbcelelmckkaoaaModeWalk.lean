/-
  The walk of LeaseMode, out of the contracts.
-/
import Derived.Test.YtbcelelmckkaoaaKnown
import Derived.Test.YtbcelelmckkaoaaOdd
import Derived.Test.YtbcelelmckkaoaaTurn
namespace Go.Proofs.Ytbcelelmckkaoaa
open Go.RowKit
set_option linter.unusedVariables false

set_option maxRecDepth 100000 in
set_option maxHeartbeats 4000000 in
theorem leaseMode_walk (mode : Int) (now : Nat) (who : Int) (n : Nat) (w : World) (hmode : -9223372036854775808 ≤ mode ∧ mode < 9223372036854775808) (hnow : now < 18446744073709551616) (hwho : -9223372036854775808 ≤ who ∧ who < 9223372036854775808) (hn : n < 18446744073709551616) :
    Calls Try.prog 9 #[.int .i64 mode, .int .u64 (now : Int), .int .i64 who, .int .u64 (n : Int)] w fun x w' => x = .returned (.bool true) ∧ Below w.heap.size w w' := by
  have B0 := Lib.hid (Below.refl w.heap.size w)
  have GD := guard25
  have KN := fun W => Lib.hid (known_any W)
  go_enter Try.func9, Try.ntmps9
  go_wp2_with fail
  generalize hA : ((now : Int) % 100000) = A
  obtain ⟨a, rfl, ba⟩ : ∃ a : Nat, A = (a : Int) ∧ 0 ≤ a ∧ a < 100000 := ⟨A.toNat, by omega, by omega, by omega⟩
  clear hA
  generalize hN : (1 + (n : Int) % 100) = N
  obtain ⟨k, rfl, bk⟩ : ∃ k : Nat, N = (k : Int) ∧ 1 ≤ k ∧ k < 101 := ⟨N.toNat, by omega, by omega, by omega⟩
  clear hN
  generalize hy : wrap64 (1 + wrap64 ((IntKind.u64.wrap mode).tmod 2)) = y
  have hzy : y = 1 ∨ y = 2 := by rw [← hy]; exact one_of_two mode
  clear hy
  generalize hz : wrap64 (1 + wrap64 ((IntKind.u64.wrap who).tmod 2)) = z
  have hzz : z = 1 ∨ z = 2 := by rw [← hz]; exact one_of_two who
  clear hz
  clear hnow hn hmode hwho
  obtain ⟨U, hU⟩ : ∃ U : Nat, a + k = U := ⟨_, rfl⟩
  obtain ⟨V, hV⟩ : ∃ V : Nat, U + 4 + k = V := ⟨_, rfl⟩
  rcases hzy with rfl | rfl
  · rcases hzz with rfl | rfl
    · have hS1 : grS 0 0 0 1 a 1 k 3 = (1, 1, U, 1, 0) := by rw [← hU]; exact gr_new (by omega) (by omega) (by omega) (by omega) (by omega)
      have C1 : ∀ W, Hid (Calls Try.prog 17 #[.agg #[.int .u32 0, .int .i64 0, .int .u64 0, .int .i64 1], .int .u64 (a : Int), .int .i64 1, .int .u64 (k : Int), .int .u64 3] W fun x w' => x = .returned (.tuple #[.agg #[.int .u32 1, .int .i64 1, .int .u64 (U : Int), .int .i64 1], .int .i64 0]) ∧ Below W.heap.size W w') := fun W => Lib.hid (grant_any 0 0 0 1 a 1 k 3 W 1 1 U 1 0 hS1 (by omega) (by omega) (by omega) (by omega))
      have hv1 : vB 1 1 U 1 := ⟨by omega, by omega, .inr ⟨by omega, by omega⟩⟩
      have hv2 : vB 1 1 U 1 := ⟨by omega, by omega, .inr ⟨by omega, by omega⟩⟩
      have hT : tnS 1 1 U 1 a 1 1 1 = (1, 1, U, 1, 0) := (if_neg (not_not_intro ⟨hv1, by omega, by omega⟩)).trans (if_neg (not_not_intro ((if_neg (by omega)).trans (if_neg (by omega)))))
      have C2 : ∀ W, Hid (Calls Try.prog 21 #[.agg #[.int .u32 1, .int .i64 1, .int .u64 (U : Int), .int .i64 1], .int .u64 (a : Int), .int .i64 1, .int .u32 1, .int .i64 1] W fun x w' => x = .returned (.tuple #[.agg #[.int .u32 1, .int .i64 1, .int .u64 (U : Int), .int .i64 1], .int .i64 0]) ∧ Below W.heap.size W w') := fun W => Lib.hid (turn_any 1 1 U 1 a 1 1 1 W 1 1 U 1 0 hT)
      have hS2 : grS 1 1 U 1 (a + k + 4) 2 k 3 = (2, 2, V, 1, 0) := by rw [← hV, ← hU]; rw [← hU] at hv2; exact gr_good ⟨hv2, by omega, by omega⟩ (by omega) (by omega) (by omega) (decide_eq_true ⟨hv2, by omega, by omega⟩)
      have C3 : ∀ W, Hid (Calls Try.prog 17 #[.agg #[.int .u32 1, .int .i64 1, .int .u64 (U : Int), .int .i64 1], .int .u64 ((a : Int) + (k : Int) + 4), .int .i64 2, .int .u64 (k : Int), .int .u64 3] W fun x w' => x = .returned (.tuple #[.agg #[.int .u32 2, .int .i64 2, .int .u64 (V : Int), .int .i64 1], .int .i64 0]) ∧ Below W.heap.size W w') := fun W => Lib.hid (grant_any 1 1 U 1 (a + k + 4) 2 k 3 W 2 2 V 1 0 hS2 (by omega) (by omega) (by omega) (by omega))
      clear hS1 hS2 hT hv1 hv2 hU hV
      with_reducible refine (empty_any _).mono ?_
      rintro x w1 ⟨rfl, hb⟩
      have B1x := Lib.hid (B0.out.trans (hb.mono B0.out.size))
      clear hb
      go_wp2_with fail
      with_reducible refine ((C1 _).out).mono ?_
      rintro x w2 ⟨rfl, hb⟩
      have X2_n := Lib.hid (Lies.made w2 25 #[.int .u32 1, .int .i64 1, .int .u64 (U : Int), .int .i64 1])
      have B2x := Lib.hid ((B1x.out.trans (hb.mono B1x.out.size)).alloc (B1x.out.trans (hb.mono B1x.out.size)).size (.cells #[.int .u32 1, .int .i64 1, .int .u64 (U : Int), .int .i64 1] 25))
      clear hb
      go_wp2_with fail
      with_reducible refine ((C2 _).out).mono ?_
      rintro x w3 ⟨rfl, hb⟩
      have L3_0 := (X2_n.out.below hb X2_n.out.lt).alloc (.cells #[.int .u32 1, .int .i64 1, .int .u64 (U : Int), .int .i64 1] 25)
      obtain ⟨q3_0_0, q3_0_1, q3_0_2, q3_0_3⟩ := L3_0.cells4
      obtain ⟨f3_0_0, f3_0_1, f3_0_2, f3_0_3⟩ := L3_0.free4
      have X3_0 := Lib.hid L3_0
      clear L3_0
      have X3_n := Lib.hid (Lies.made w3 25 #[.int .u32 1, .int .i64 1, .int .u64 (U : Int), .int .i64 1])
      have B3x := Lib.hid ((B2x.out.trans (hb.mono B2x.out.size)).alloc (B2x.out.trans (hb.mono B2x.out.size)).size (.cells #[.int .u32 1, .int .i64 1, .int .u64 (U : Int), .int .i64 1] 25))
      clear hb
      go_wp2_with fail
      with_reducible refine ((C3 _).out).mono ?_
      rintro x w4 ⟨rfl, hb⟩
      clear q3_0_0 q3_0_1 q3_0_2 q3_0_3 f3_0_0 f3_0_1 f3_0_2 f3_0_3
      have L4_0 := (X3_0.out.below hb X3_0.out.lt).alloc (.cells #[.int .u32 2, .int .i64 2, .int .u64 (V : Int), .int .i64 1] 25)
      obtain ⟨q4_0_0, q4_0_1, q4_0_2, q4_0_3⟩ := L4_0.cells4
      obtain ⟨f4_0_0, f4_0_1, f4_0_2, f4_0_3⟩ := L4_0.free4
      have X4_0 := Lib.hid L4_0
      clear L4_0
      have L4_1 := (X3_n.out.below hb X3_n.out.lt).alloc (.cells #[.int .u32 2, .int .i64 2, .int .u64 (V : Int), .int .i64 1] 25)
      obtain ⟨q4_1_0, q4_1_1, q4_1_2, q4_1_3⟩ := L4_1.cells4
      obtain ⟨f4_1_0, f4_1_1, f4_1_2, f4_1_3⟩ := L4_1.free4
      have X4_1 := Lib.hid L4_1
      clear L4_1
      have X4_n := Lib.hid (Lies.made w4 25 #[.int .u32 2, .int .i64 2, .int .u64 (V : Int), .int .i64 1])
      have B4x := Lib.hid ((B3x.out.trans (hb.mono B3x.out.size)).alloc (B3x.out.trans (hb.mono B3x.out.size)).size (.cells #[.int .u32 2, .int .i64 2, .int .u64 (V : Int), .int .i64 1] 25))
      clear hb
      go_wp2_with fail
      with_reducible refine ((KN _).out).mono ?_
      rintro x w5 ⟨rfl, hb⟩
      clear q4_0_0 q4_0_1 q4_0_2 q4_0_3 f4_0_0 f4_0_1 f4_0_2 f4_0_3 q4_1_0 q4_1_1 q4_1_2 q4_1_3 f4_1_0 f4_1_1 f4_1_2 f4_1_3
      have L5_0 := X4_0.out.below hb X4_0.out.lt
      obtain ⟨q5_0_0, q5_0_1, q5_0_2, q5_0_3⟩ := L5_0.cells4
      obtain ⟨f5_0_0, f5_0_1, f5_0_2, f5_0_3⟩ := L5_0.free4
      have X5_0 := Lib.hid L5_0
      clear L5_0
      have L5_1 := X4_1.out.below hb X4_1.out.lt
      obtain ⟨q5_1_0, q5_1_1, q5_1_2, q5_1_3⟩ := L5_1.cells4
      obtain ⟨f5_1_0, f5_1_1, f5_1_2, f5_1_3⟩ := L5_1.free4
      have X5_1 := Lib.hid L5_1
      clear L5_1
      have L5_2 := X4_n.out.below hb X4_n.out.lt
      obtain ⟨q5_2_0, q5_2_1, q5_2_2, q5_2_3⟩ := L5_2.cells4
      obtain ⟨f5_2_0, f5_2_1, f5_2_2, f5_2_3⟩ := L5_2.free4
      have X5_2 := Lib.hid L5_2
      clear L5_2
      have B5x := Lib.hid (B4x.out.trans (hb.mono B4x.out.size))
      clear hb
      go_wp2
      go_ret
      exact ⟨rfl, B5x.out⟩
    · have hS1 : grS 0 0 0 1 a 2 k 3 = (1, 2, U, 1, 0) := by rw [← hU]; exact gr_new (by omega) (by omega) (by omega) (by omega) (by omega)
      have C1 : ∀ W, Hid (Calls Try.prog 17 #[.agg #[.int .u32 0, .int .i64 0, .int .u64 0, .int .i64 1], .int .u64 (a : Int), .int .i64 2, .int .u64 (k : Int), .int .u64 3] W fun x w' => x = .returned (.tuple #[.agg #[.int .u32 1, .int .i64 2, .int .u64 (U : Int), .int .i64 1], .int .i64 0]) ∧ Below W.heap.size W w') := fun W => Lib.hid (grant_any 0 0 0 1 a 2 k 3 W 1 2 U 1 0 hS1 (by omega) (by omega) (by omega) (by omega))
      have hv1 : vB 1 2 U 1 := ⟨by omega, by omega, .inr ⟨by omega, by omega⟩⟩
      have hv2 : vB 1 2 U 1 := ⟨by omega, by omega, .inr ⟨by omega, by omega⟩⟩
      have hT : tnS 1 2 U 1 a 2 1 1 = (1, 2, U, 1, 0) := (if_neg (not_not_intro ⟨hv1, by omega, by omega⟩)).trans (if_neg (not_not_intro ((if_neg (by omega)).trans (if_neg (by omega)))))
      have C2 : ∀ W, Hid (Calls Try.prog 21 #[.agg #[.int .u32 1, .int .i64 2, .int .u64 (U : Int), .int .i64 1], .int .u64 (a : Int), .int .i64 2, .int .u32 1, .int .i64 1] W fun x w' => x = .returned (.tuple #[.agg #[.int .u32 1, .int .i64 2, .int .u64 (U : Int), .int .i64 1], .int .i64 0]) ∧ Below W.heap.size W w') := fun W => Lib.hid (turn_any 1 2 U 1 a 2 1 1 W 1 2 U 1 0 hT)
      have hS2 : grS 1 2 U 1 (a + k + 4) 1 k 3 = (2, 1, V, 1, 0) := by rw [← hV, ← hU]; rw [← hU] at hv2; exact gr_good ⟨hv2, by omega, by omega⟩ (by omega) (by omega) (by omega) (decide_eq_true ⟨hv2, by omega, by omega⟩)
      have C3 : ∀ W, Hid (Calls Try.prog 17 #[.agg #[.int .u32 1, .int .i64 2, .int .u64 (U : Int), .int .i64 1], .int .u64 ((a : Int) + (k : Int) + 4), .int .i64 1, .int .u64 (k : Int), .int .u64 3] W fun x w' => x = .returned (.tuple #[.agg #[.int .u32 2, .int .i64 1, .int .u64 (V : Int), .int .i64 1], .int .i64 0]) ∧ Below W.heap.size W w') := fun W => Lib.hid (grant_any 1 2 U 1 (a + k + 4) 1 k 3 W 2 1 V 1 0 hS2 (by omega) (by omega) (by omega) (by omega))
      clear hS1 hS2 hT hv1 hv2 hU hV
      with_reducible refine (empty_any _).mono ?_
      rintro x w1 ⟨rfl, hb⟩
      have B1x := Lib.hid (B0.out.trans (hb.mono B0.out.size))
      clear hb
      go_wp2_with fail
      with_reducible refine ((C1 _).out).mono ?_
      rintro x w2 ⟨rfl, hb⟩
      have X2_n := Lib.hid (Lies.made w2 25 #[.int .u32 1, .int .i64 2, .int .u64 (U : Int), .int .i64 1])
      have B2x := Lib.hid ((B1x.out.trans (hb.mono B1x.out.size)).alloc (B1x.out.trans (hb.mono B1x.out.size)).size (.cells #[.int .u32 1, .int .i64 2, .int .u64 (U : Int), .int .i64 1] 25))
      clear hb
      go_wp2_with fail
      with_reducible refine ((C2 _).out).mono ?_
      rintro x w3 ⟨rfl, hb⟩
      have L3_0 := (X2_n.out.below hb X2_n.out.lt).alloc (.cells #[.int .u32 1, .int .i64 2, .int .u64 (U : Int), .int .i64 1] 25)
      obtain ⟨q3_0_0, q3_0_1, q3_0_2, q3_0_3⟩ := L3_0.cells4
      obtain ⟨f3_0_0, f3_0_1, f3_0_2, f3_0_3⟩ := L3_0.free4
      have X3_0 := Lib.hid L3_0
      clear L3_0
      have X3_n := Lib.hid (Lies.made w3 25 #[.int .u32 1, .int .i64 2, .int .u64 (U : Int), .int .i64 1])
      have B3x := Lib.hid ((B2x.out.trans (hb.mono B2x.out.size)).alloc (B2x.out.trans (hb.mono B2x.out.size)).size (.cells #[.int .u32 1, .int .i64 2, .int .u64 (U : Int), .int .i64 1] 25))
      clear hb
      go_wp2_with fail
      with_reducible refine ((C3 _).out).mono ?_
      rintro x w4 ⟨rfl, hb⟩
      clear q3_0_0 q3_0_1 q3_0_2 q3_0_3 f3_0_0 f3_0_1 f3_0_2 f3_0_3
      have L4_0 := (X3_0.out.below hb X3_0.out.lt).alloc (.cells #[.int .u32 2, .int .i64 1, .int .u64 (V : Int), .int .i64 1] 25)
      obtain ⟨q4_0_0, q4_0_1, q4_0_2, q4_0_3⟩ := L4_0.cells4
      obtain ⟨f4_0_0, f4_0_1, f4_0_2, f4_0_3⟩ := L4_0.free4
      have X4_0 := Lib.hid L4_0
      clear L4_0
      have L4_1 := (X3_n.out.below hb X3_n.out.lt).alloc (.cells #[.int .u32 2, .int .i64 1, .int .u64 (V : Int), .int .i64 1] 25)
      obtain ⟨q4_1_0, q4_1_1, q4_1_2, q4_1_3⟩ := L4_1.cells4
      obtain ⟨f4_1_0, f4_1_1, f4_1_2, f4_1_3⟩ := L4_1.free4
      have X4_1 := Lib.hid L4_1
      clear L4_1
      have X4_n := Lib.hid (Lies.made w4 25 #[.int .u32 2, .int .i64 1, .int .u64 (V : Int), .int .i64 1])
      have B4x := Lib.hid ((B3x.out.trans (hb.mono B3x.out.size)).alloc (B3x.out.trans (hb.mono B3x.out.size)).size (.cells #[.int .u32 2, .int .i64 1, .int .u64 (V : Int), .int .i64 1] 25))
      clear hb
      go_wp2_with fail
      with_reducible refine ((KN _).out).mono ?_
      rintro x w5 ⟨rfl, hb⟩
      clear q4_0_0 q4_0_1 q4_0_2 q4_0_3 f4_0_0 f4_0_1 f4_0_2 f4_0_3 q4_1_0 q4_1_1 q4_1_2 q4_1_3 f4_1_0 f4_1_1 f4_1_2 f4_1_3
      have L5_0 := X4_0.out.below hb X4_0.out.lt
      obtain ⟨q5_0_0, q5_0_1, q5_0_2, q5_0_3⟩ := L5_0.cells4
      obtain ⟨f5_0_0, f5_0_1, f5_0_2, f5_0_3⟩ := L5_0.free4
      have X5_0 := Lib.hid L5_0
      clear L5_0
      have L5_1 := X4_1.out.below hb X4_1.out.lt
      obtain ⟨q5_1_0, q5_1_1, q5_1_2, q5_1_3⟩ := L5_1.cells4
      obtain ⟨f5_1_0, f5_1_1, f5_1_2, f5_1_3⟩ := L5_1.free4
      have X5_1 := Lib.hid L5_1
      clear L5_1
      have L5_2 := X4_n.out.below hb X4_n.out.lt
      obtain ⟨q5_2_0, q5_2_1, q5_2_2, q5_2_3⟩ := L5_2.cells4
      obtain ⟨f5_2_0, f5_2_1, f5_2_2, f5_2_3⟩ := L5_2.free4
      have X5_2 := Lib.hid L5_2
      clear L5_2
      have B5x := Lib.hid (B4x.out.trans (hb.mono B4x.out.size))
      clear hb
      go_wp2
      go_ret
      exact ⟨rfl, B5x.out⟩
  · rcases hzz with rfl | rfl
    · have hS1 : grS 0 0 0 1 a 1 k 3 = (1, 1, U, 1, 0) := by rw [← hU]; exact gr_new (by omega) (by omega) (by omega) (by omega) (by omega)
      have C1 : ∀ W, Hid (Calls Try.prog 17 #[.agg #[.int .u32 0, .int .i64 0, .int .u64 0, .int .i64 1], .int .u64 (a : Int), .int .i64 1, .int .u64 (k : Int), .int .u64 3] W fun x w' => x = .returned (.tuple #[.agg #[.int .u32 1, .int .i64 1, .int .u64 (U : Int), .int .i64 1], .int .i64 0]) ∧ Below W.heap.size W w') := fun W => Lib.hid (grant_any 0 0 0 1 a 1 k 3 W 1 1 U 1 0 hS1 (by omega) (by omega) (by omega) (by omega))
      have hv1 : vB 1 1 U 1 := ⟨by omega, by omega, .inr ⟨by omega, by omega⟩⟩
      have hv2 : vB 1 1 U 2 := ⟨by omega, by omega, .inr ⟨by omega, by omega⟩⟩
      have hT : tnS 1 1 U 1 a 1 1 2 = (1, 1, U, 2, 0) := (if_neg (not_not_intro ⟨hv1, by omega, by omega⟩)).trans (if_neg (not_not_intro ((if_neg (by omega)).trans (if_neg (by omega)))))
      have C2 : ∀ W, Hid (Calls Try.prog 21 #[.agg #[.int .u32 1, .int .i64 1, .int .u64 (U : Int), .int .i64 1], .int .u64 (a : Int), .int .i64 1, .int .u32 1, .int .i64 2] W fun x w' => x = .returned (.tuple #[.agg #[.int .u32 1, .int .i64 1, .int .u64 (U : Int), .int .i64 2], .int .i64 0]) ∧ Below W.heap.size W w') := fun W => Lib.hid (turn_any 1 1 U 1 a 1 1 2 W 1 1 U 2 0 hT)
      have hS2 : grS 1 1 U 2 (a + k + 4) 2 k 3 = (2, 2, V, 2, 0) := by rw [← hV, ← hU]; rw [← hU] at hv2; exact gr_good ⟨hv2, by omega, by omega⟩ (by omega) (by omega) (by omega) (decide_eq_true ⟨hv2, by omega, by omega⟩)
      have C3 : ∀ W, Hid (Calls Try.prog 17 #[.agg #[.int .u32 1, .int .i64 1, .int .u64 (U : Int), .int .i64 2], .int .u64 ((a : Int) + (k : Int) + 4), .int .i64 2, .int .u64 (k : Int), .int .u64 3] W fun x w' => x = .returned (.tuple #[.agg #[.int .u32 2, .int .i64 2, .int .u64 (V : Int), .int .i64 2], .int .i64 0]) ∧ Below W.heap.size W w') := fun W => Lib.hid (grant_any 1 1 U 2 (a + k + 4) 2 k 3 W 2 2 V 2 0 hS2 (by omega) (by omega) (by omega) (by omega))
      clear hS1 hS2 hT hv1 hv2 hU hV
      with_reducible refine (empty_any _).mono ?_
      rintro x w1 ⟨rfl, hb⟩
      have B1x := Lib.hid (B0.out.trans (hb.mono B0.out.size))
      clear hb
      go_wp2_with fail
      with_reducible refine ((C1 _).out).mono ?_
      rintro x w2 ⟨rfl, hb⟩
      have X2_n := Lib.hid (Lies.made w2 25 #[.int .u32 1, .int .i64 1, .int .u64 (U : Int), .int .i64 1])
      have B2x := Lib.hid ((B1x.out.trans (hb.mono B1x.out.size)).alloc (B1x.out.trans (hb.mono B1x.out.size)).size (.cells #[.int .u32 1, .int .i64 1, .int .u64 (U : Int), .int .i64 1] 25))
      clear hb
      go_wp2_with fail
      with_reducible refine ((C2 _).out).mono ?_
      rintro x w3 ⟨rfl, hb⟩
      have L3_0 := (X2_n.out.below hb X2_n.out.lt).alloc (.cells #[.int .u32 1, .int .i64 1, .int .u64 (U : Int), .int .i64 2] 25)
      obtain ⟨q3_0_0, q3_0_1, q3_0_2, q3_0_3⟩ := L3_0.cells4
      obtain ⟨f3_0_0, f3_0_1, f3_0_2, f3_0_3⟩ := L3_0.free4
      have X3_0 := Lib.hid L3_0
      clear L3_0
      have X3_n := Lib.hid (Lies.made w3 25 #[.int .u32 1, .int .i64 1, .int .u64 (U : Int), .int .i64 2])
      have B3x := Lib.hid ((B2x.out.trans (hb.mono B2x.out.size)).alloc (B2x.out.trans (hb.mono B2x.out.size)).size (.cells #[.int .u32 1, .int .i64 1, .int .u64 (U : Int), .int .i64 2] 25))
      clear hb
      go_wp2_with fail
      with_reducible refine ((C3 _).out).mono ?_
      rintro x w4 ⟨rfl, hb⟩
      clear q3_0_0 q3_0_1 q3_0_2 q3_0_3 f3_0_0 f3_0_1 f3_0_2 f3_0_3
      have L4_0 := (X3_0.out.below hb X3_0.out.lt).alloc (.cells #[.int .u32 2, .int .i64 2, .int .u64 (V : Int), .int .i64 2] 25)
      obtain ⟨q4_0_0, q4_0_1, q4_0_2, q4_0_3⟩ := L4_0.cells4
      obtain ⟨f4_0_0, f4_0_1, f4_0_2, f4_0_3⟩ := L4_0.free4
      have X4_0 := Lib.hid L4_0
      clear L4_0
      have L4_1 := (X3_n.out.below hb X3_n.out.lt).alloc (.cells #[.int .u32 2, .int .i64 2, .int .u64 (V : Int), .int .i64 2] 25)
      obtain ⟨q4_1_0, q4_1_1, q4_1_2, q4_1_3⟩ := L4_1.cells4
      obtain ⟨f4_1_0, f4_1_1, f4_1_2, f4_1_3⟩ := L4_1.free4
      have X4_1 := Lib.hid L4_1
      clear L4_1
      have X4_n := Lib.hid (Lies.made w4 25 #[.int .u32 2, .int .i64 2, .int .u64 (V : Int), .int .i64 2])
      have B4x := Lib.hid ((B3x.out.trans (hb.mono B3x.out.size)).alloc (B3x.out.trans (hb.mono B3x.out.size)).size (.cells #[.int .u32 2, .int .i64 2, .int .u64 (V : Int), .int .i64 2] 25))
      clear hb
      go_wp2_with fail
      with_reducible refine ((KN _).out).mono ?_
      rintro x w5 ⟨rfl, hb⟩
      clear q4_0_0 q4_0_1 q4_0_2 q4_0_3 f4_0_0 f4_0_1 f4_0_2 f4_0_3 q4_1_0 q4_1_1 q4_1_2 q4_1_3 f4_1_0 f4_1_1 f4_1_2 f4_1_3
      have L5_0 := X4_0.out.below hb X4_0.out.lt
      obtain ⟨q5_0_0, q5_0_1, q5_0_2, q5_0_3⟩ := L5_0.cells4
      obtain ⟨f5_0_0, f5_0_1, f5_0_2, f5_0_3⟩ := L5_0.free4
      have X5_0 := Lib.hid L5_0
      clear L5_0
      have L5_1 := X4_1.out.below hb X4_1.out.lt
      obtain ⟨q5_1_0, q5_1_1, q5_1_2, q5_1_3⟩ := L5_1.cells4
      obtain ⟨f5_1_0, f5_1_1, f5_1_2, f5_1_3⟩ := L5_1.free4
      have X5_1 := Lib.hid L5_1
      clear L5_1
      have L5_2 := X4_n.out.below hb X4_n.out.lt
      obtain ⟨q5_2_0, q5_2_1, q5_2_2, q5_2_3⟩ := L5_2.cells4
      obtain ⟨f5_2_0, f5_2_1, f5_2_2, f5_2_3⟩ := L5_2.free4
      have X5_2 := Lib.hid L5_2
      clear L5_2
      have B5x := Lib.hid (B4x.out.trans (hb.mono B4x.out.size))
      clear hb
      go_wp2
      go_ret
      exact ⟨rfl, B5x.out⟩
    · have hS1 : grS 0 0 0 1 a 2 k 3 = (1, 2, U, 1, 0) := by rw [← hU]; exact gr_new (by omega) (by omega) (by omega) (by omega) (by omega)
      have C1 : ∀ W, Hid (Calls Try.prog 17 #[.agg #[.int .u32 0, .int .i64 0, .int .u64 0, .int .i64 1], .int .u64 (a : Int), .int .i64 2, .int .u64 (k : Int), .int .u64 3] W fun x w' => x = .returned (.tuple #[.agg #[.int .u32 1, .int .i64 2, .int .u64 (U : Int), .int .i64 1], .int .i64 0]) ∧ Below W.heap.size W w') := fun W => Lib.hid (grant_any 0 0 0 1 a 2 k 3 W 1 2 U 1 0 hS1 (by omega) (by omega) (by omega) (by omega))
      have hv1 : vB 1 2 U 1 := ⟨by omega, by omega, .inr ⟨by omega, by omega⟩⟩
      have hv2 : vB 1 2 U 2 := ⟨by omega, by omega, .inr ⟨by omega, by omega⟩⟩
      have hT : tnS 1 2 U 1 a 2 1 2 = (1, 2, U, 2, 0) := (if_neg (not_not_intro ⟨hv1, by omega, by omega⟩)).trans (if_neg (not_not_intro ((if_neg (by omega)).trans (if_neg (by omega)))))
      have C2 : ∀ W, Hid (Calls Try.prog 21 #[.agg #[.int .u32 1, .int .i64 2, .int .u64 (U : Int), .int .i64 1], .int .u64 (a : Int), .int .i64 2, .int .u32 1, .int .i64 2] W fun x w' => x = .returned (.tuple #[.agg #[.int .u32 1, .int .i64 2, .int .u64 (U : Int), .int .i64 2], .int .i64 0]) ∧ Below W.heap.size W w') := fun W => Lib.hid (turn_any 1 2 U 1 a 2 1 2 W 1 2 U 2 0 hT)
      have hS2 : grS 1 2 U 2 (a + k + 4) 1 k 3 = (2, 1, V, 2, 0) := by rw [← hV, ← hU]; rw [← hU] at hv2; exact gr_good ⟨hv2, by omega, by omega⟩ (by omega) (by omega) (by omega) (decide_eq_true ⟨hv2, by omega, by omega⟩)
      have C3 : ∀ W, Hid (Calls Try.prog 17 #[.agg #[.int .u32 1, .int .i64 2, .int .u64 (U : Int), .int .i64 2], .int .u64 ((a : Int) + (k : Int) + 4), .int .i64 1, .int .u64 (k : Int), .int .u64 3] W fun x w' => x = .returned (.tuple #[.agg #[.int .u32 2, .int .i64 1, .int .u64 (V : Int), .int .i64 2], .int .i64 0]) ∧ Below W.heap.size W w') := fun W => Lib.hid (grant_any 1 2 U 2 (a + k + 4) 1 k 3 W 2 1 V 2 0 hS2 (by omega) (by omega) (by omega) (by omega))
      clear hS1 hS2 hT hv1 hv2 hU hV
      with_reducible refine (empty_any _).mono ?_
      rintro x w1 ⟨rfl, hb⟩
      have B1x := Lib.hid (B0.out.trans (hb.mono B0.out.size))
      clear hb
      go_wp2_with fail
      with_reducible refine ((C1 _).out).mono ?_
      rintro x w2 ⟨rfl, hb⟩
      have X2_n := Lib.hid (Lies.made w2 25 #[.int .u32 1, .int .i64 2, .int .u64 (U : Int), .int .i64 1])
      have B2x := Lib.hid ((B1x.out.trans (hb.mono B1x.out.size)).alloc (B1x.out.trans (hb.mono B1x.out.size)).size (.cells #[.int .u32 1, .int .i64 2, .int .u64 (U : Int), .int .i64 1] 25))
      clear hb
      go_wp2_with fail
      with_reducible refine ((C2 _).out).mono ?_
      rintro x w3 ⟨rfl, hb⟩
      have L3_0 := (X2_n.out.below hb X2_n.out.lt).alloc (.cells #[.int .u32 1, .int .i64 2, .int .u64 (U : Int), .int .i64 2] 25)
      obtain ⟨q3_0_0, q3_0_1, q3_0_2, q3_0_3⟩ := L3_0.cells4
      obtain ⟨f3_0_0, f3_0_1, f3_0_2, f3_0_3⟩ := L3_0.free4
      have X3_0 := Lib.hid L3_0
      clear L3_0
      have X3_n := Lib.hid (Lies.made w3 25 #[.int .u32 1, .int .i64 2, .int .u64 (U : Int), .int .i64 2])
      have B3x := Lib.hid ((B2x.out.trans (hb.mono B2x.out.size)).alloc (B2x.out.trans (hb.mono B2x.out.size)).size (.cells #[.int .u32 1, .int .i64 2, .int .u64 (U : Int), .int .i64 2] 25))
      clear hb
      go_wp2_with fail
      with_reducible refine ((C3 _).out).mono ?_
      rintro x w4 ⟨rfl, hb⟩
      clear q3_0_0 q3_0_1 q3_0_2 q3_0_3 f3_0_0 f3_0_1 f3_0_2 f3_0_3
      have L4_0 := (X3_0.out.below hb X3_0.out.lt).alloc (.cells #[.int .u32 2, .int .i64 1, .int .u64 (V : Int), .int .i64 2] 25)
      obtain ⟨q4_0_0, q4_0_1, q4_0_2, q4_0_3⟩ := L4_0.cells4
      obtain ⟨f4_0_0, f4_0_1, f4_0_2, f4_0_3⟩ := L4_0.free4
      have X4_0 := Lib.hid L4_0
      clear L4_0
      have L4_1 := (X3_n.out.below hb X3_n.out.lt).alloc (.cells #[.int .u32 2, .int .i64 1, .int .u64 (V : Int), .int .i64 2] 25)
      obtain ⟨q4_1_0, q4_1_1, q4_1_2, q4_1_3⟩ := L4_1.cells4
      obtain ⟨f4_1_0, f4_1_1, f4_1_2, f4_1_3⟩ := L4_1.free4
      have X4_1 := Lib.hid L4_1
      clear L4_1
      have X4_n := Lib.hid (Lies.made w4 25 #[.int .u32 2, .int .i64 1, .int .u64 (V : Int), .int .i64 2])
      have B4x := Lib.hid ((B3x.out.trans (hb.mono B3x.out.size)).alloc (B3x.out.trans (hb.mono B3x.out.size)).size (.cells #[.int .u32 2, .int .i64 1, .int .u64 (V : Int), .int .i64 2] 25))
      clear hb
      go_wp2_with fail
      with_reducible refine ((KN _).out).mono ?_
      rintro x w5 ⟨rfl, hb⟩
      clear q4_0_0 q4_0_1 q4_0_2 q4_0_3 f4_0_0 f4_0_1 f4_0_2 f4_0_3 q4_1_0 q4_1_1 q4_1_2 q4_1_3 f4_1_0 f4_1_1 f4_1_2 f4_1_3
      have L5_0 := X4_0.out.below hb X4_0.out.lt
      obtain ⟨q5_0_0, q5_0_1, q5_0_2, q5_0_3⟩ := L5_0.cells4
      obtain ⟨f5_0_0, f5_0_1, f5_0_2, f5_0_3⟩ := L5_0.free4
      have X5_0 := Lib.hid L5_0
      clear L5_0
      have L5_1 := X4_1.out.below hb X4_1.out.lt
      obtain ⟨q5_1_0, q5_1_1, q5_1_2, q5_1_3⟩ := L5_1.cells4
      obtain ⟨f5_1_0, f5_1_1, f5_1_2, f5_1_3⟩ := L5_1.free4
      have X5_1 := Lib.hid L5_1
      clear L5_1
      have L5_2 := X4_n.out.below hb X4_n.out.lt
      obtain ⟨q5_2_0, q5_2_1, q5_2_2, q5_2_3⟩ := L5_2.cells4
      obtain ⟨f5_2_0, f5_2_1, f5_2_2, f5_2_3⟩ := L5_2.free4
      have X5_2 := Lib.hid L5_2
      clear L5_2
      have B5x := Lib.hid (B4x.out.trans (hb.mono B4x.out.size))
      clear hb
      go_wp2
      go_ret
      exact ⟨rfl, B5x.out⟩

end Go.Proofs.Ytbcelelmckkaoaa
