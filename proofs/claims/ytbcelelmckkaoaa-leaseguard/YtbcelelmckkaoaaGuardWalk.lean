/-
  The walk of LeaseGuard, out of the contracts.
-/
import Derived.Test.YtbcelelmckkaoaaKnown
import Derived.Test.YtbcelelmckkaoaaOdd
namespace Go.Proofs.Ytbcelelmckkaoaa
open Go.RowKit
set_option linter.unusedVariables false

set_option maxRecDepth 100000 in
set_option maxHeartbeats 4000000 in
theorem leaseGuard_walk (now n g wt : Nat) (who : Int) (w : World) (hnow : now < 18446744073709551616) (hn : n < 18446744073709551616) (hg : g < 18446744073709551616) (hwt : wt < 18446744073709551616) (hwho : -9223372036854775808 ≤ who ∧ who < 9223372036854775808) :
    Calls Try.prog 7 #[.int .u64 (now : Int), .int .u64 (n : Int), .int .u64 (g : Int), .int .u64 (wt : Int), .int .i64 who] w fun x w' => x = .returned (.bool true) ∧ Below w.heap.size w w' := by
  have B0 := Lib.hid (Below.refl w.heap.size w)
  have GD := guard25
  have KN := fun W => Lib.hid (known_any W)
  go_enter Try.func7, Try.ntmps7
  go_wp2_with fail
  generalize hA : ((now : Int) % 1000000) = A
  obtain ⟨a, rfl, ba⟩ : ∃ a : Nat, A = (a : Int) ∧ 0 ≤ a ∧ a < 1000000 := ⟨A.toNat, by omega, by omega, by omega⟩
  clear hA
  generalize hN : (1 + (n : Int) % 10000) = N
  obtain ⟨k, rfl, bk⟩ : ∃ k : Nat, N = (k : Int) ∧ 1 ≤ k ∧ k < 10001 := ⟨N.toNat, by omega, by omega, by omega⟩
  clear hN
  generalize hG : ((g : Int) % 10001) = G
  obtain ⟨q, rfl, bq⟩ : ∃ q : Nat, G = (q : Int) ∧ 0 ≤ q ∧ q < 10001 := ⟨G.toNat, by omega, by omega, by omega⟩
  clear hG
  generalize hT : ((wt : Int) % 40000) = T
  obtain ⟨t, rfl, bt⟩ : ∃ t : Nat, T = (t : Int) ∧ 0 ≤ t ∧ t < 40000 := ⟨T.toNat, by omega, by omega, by omega⟩
  clear hT
  generalize hz : wrap64 (1 + wrap64 ((IntKind.u64.wrap who).tmod 2)) = z
  have hzz : z = 1 ∨ z = 2 := by rw [← hz]; exact one_of_two who
  clear hz
  clear hnow hn hg hwt hwho
  obtain ⟨U, hU⟩ : ∃ U : Nat, a + k = U := ⟨_, rfl⟩
  obtain ⟨V, hV⟩ : ∃ V : Nat, a + t + k = V := ⟨_, rfl⟩
  rcases hzz with rfl | rfl
  · by_cases hfree : k + q < t
    · have hS1 : grS 0 0 0 1 a 1 k q = (1, 1, U, 1, 0) := by rw [← hU]; exact gr_new (by omega) (by omega) (by omega) (by omega) (by omega)
      have C1 : ∀ W, Hid (Calls Try.prog 17 #[.agg #[.int .u32 0, .int .i64 0, .int .u64 0, .int .i64 1], .int .u64 (a : Int), .int .i64 1, .int .u64 (k : Int), .int .u64 (q : Int)] W fun x w' => x = .returned (.tuple #[.agg #[.int .u32 1, .int .i64 1, .int .u64 (U : Int), .int .i64 1], .int .i64 0]) ∧ Below W.heap.size W w') := fun W => Lib.hid (grant_any 0 0 0 1 a 1 k q W 1 1 U 1 0 hS1 (by omega) (by omega) (by omega) (by omega))
      have hv : vB 1 1 U 1 := ⟨by omega, by omega, .inr ⟨by omega, by omega⟩⟩
      have hf : frS 1 1 U 1 (a + t) q = true := decide_eq_true ⟨hv, by omega, by omega⟩
      have hS2 : grS 1 1 U 1 (a + t) 2 k q = (2, 2, V, 1, 0) := by rw [← hV]; exact gr_good ⟨hv, by omega, by omega⟩ (by omega) (by omega) (by omega) hf
      have C2 : ∀ W, Hid (Calls Try.prog 17 #[.agg #[.int .u32 1, .int .i64 1, .int .u64 (U : Int), .int .i64 1], .int .u64 ((a : Int) + (t : Int)), .int .i64 2, .int .u64 (k : Int), .int .u64 (q : Int)] W fun x w' => x = .returned (.tuple #[.agg #[.int .u32 2, .int .i64 2, .int .u64 (V : Int), .int .i64 1], .int .i64 0]) ∧ Below W.heap.size W w') := fun W => Lib.hid (grant_any 1 1 U 1 (a + t) 2 k q W 2 2 V 1 0 hS2 (by omega) (by omega) (by omega) (by omega))
      have C3 : ∀ W, Hid (Calls Try.prog 12 #[.agg #[.int .u32 1, .int .i64 1, .int .u64 (U : Int), .int .i64 1], .int .u64 ((a : Int) + (t : Int)), .int .u64 (q : Int)] W fun x w' => x = .returned (.bool true) ∧ Below W.heap.size W w') := fun W => Lib.hid (by have := free_any 1 1 U 1 (a + t) q W (by omega) (by omega); rw [hf] at this; exact this)
      have d1 : ((U : Int) != (a : Int) + (k : Int)) = false := by simp; omega
      have d2 : decide ((k : Int) + (q : Int) < (t : Int)) = true := decide_eq_true (by omega)
      have d3 : decide (k + q < t) = true := decide_eq_true (by omega)
      clear hS1 hS2 hv hf hU hV
      with_reducible refine (empty_any _).mono ?_
      rintro x w1 ⟨rfl, hb⟩
      have B1x := Lib.hid (B0.out.trans (hb.mono B0.out.size))
      clear hb
      go_wp2_with fail
      with_reducible refine ((C1 _).out).mono ?_
      rintro x w2 ⟨rfl, hb⟩
      have X2_n := Lib.hid (Lies.made w2 25 #[.int .u32 1, .int .i64 1, .int .u64 (U : Int), .int .i64 1])
      have B2x := Lib.hid ((B1x.out.trans (hb.mono B1x.out.size)).alloc (B1x.out.trans (hb.mono B1x.out.size)).size (.cells #[.int .u32 1, .int .i64 1, .int .u64 (U : Int), .int .i64 1] 25))
      clear hb
      go_wp2_with fail
      with_reducible refine ((C2 _).out).mono ?_
      rintro x w3 ⟨rfl, hb⟩
      have L3_0 := (X2_n.out.below hb X2_n.out.lt).alloc (.cells #[.int .u32 2, .int .i64 2, .int .u64 (V : Int), .int .i64 1] 25)
      obtain ⟨q3_0_0, q3_0_1, q3_0_2, q3_0_3⟩ := L3_0.cells4
      obtain ⟨f3_0_0, f3_0_1, f3_0_2, f3_0_3⟩ := L3_0.free4
      have X3_0 := Lib.hid L3_0
      clear L3_0
      have X3_n := Lib.hid (Lies.made w3 25 #[.int .u32 2, .int .i64 2, .int .u64 (V : Int), .int .i64 1])
      have B3x := Lib.hid ((B2x.out.trans (hb.mono B2x.out.size)).alloc (B2x.out.trans (hb.mono B2x.out.size)).size (.cells #[.int .u32 2, .int .i64 2, .int .u64 (V : Int), .int .i64 1] 25))
      clear hb
      go_wp2_with fail
      with_reducible refine ((C3 _).out).mono ?_
      rintro x w4 ⟨rfl, hb⟩
      clear q3_0_0 q3_0_1 q3_0_2 q3_0_3 f3_0_0 f3_0_1 f3_0_2 f3_0_3
      have L4_0 := X3_0.out.below hb X3_0.out.lt
      obtain ⟨q4_0_0, q4_0_1, q4_0_2, q4_0_3⟩ := L4_0.cells4
      obtain ⟨f4_0_0, f4_0_1, f4_0_2, f4_0_3⟩ := L4_0.free4
      have X4_0 := Lib.hid L4_0
      clear L4_0
      have L4_1 := X3_n.out.below hb X3_n.out.lt
      obtain ⟨q4_1_0, q4_1_1, q4_1_2, q4_1_3⟩ := L4_1.cells4
      obtain ⟨f4_1_0, f4_1_1, f4_1_2, f4_1_3⟩ := L4_1.free4
      have X4_1 := Lib.hid L4_1
      clear L4_1
      have B4x := Lib.hid (B3x.out.trans (hb.mono B3x.out.size))
      clear hb
      go_wp2_with fail
      with_reducible refine ((KN _).out).mono ?_
      rintro x w5 ⟨rfl, hb⟩
      clear q4_0_0 q4_0_1 q4_0_2 q4_0_3 f4_0_0 f4_0_1 f4_0_2 f4_0_3 q4_1_0 q4_1_1 q4_1_2 q4_1_3 f4_1_0 f4_1_1 f4_1_2 f4_1_3
      have L5_0 := X4_0.out.below hb X4_0.out.lt
      obtain ⟨q5_0_0, q5_0_1, q5_0_2, q5_0_3⟩ := L5_0.cells4
      obtain ⟨f5_0_0, f5_0_1, f5_0_2, f5_0_3⟩ := L5_0.free4
      have X5_0 := Lib.hid L5_0
      clear L5_0
      have L5_1 := X4_1.out.below hb X4_1.out.lt
      obtain ⟨q5_1_0, q5_1_1, q5_1_2, q5_1_3⟩ := L5_1.cells4
      obtain ⟨f5_1_0, f5_1_1, f5_1_2, f5_1_3⟩ := L5_1.free4
      have X5_1 := Lib.hid L5_1
      clear L5_1
      have B5x := Lib.hid (B4x.out.trans (hb.mono B4x.out.size))
      clear hb
      go_wp2
      go_ret
      exact ⟨rfl, B5x.out⟩
    · have hS1 : grS 0 0 0 1 a 1 k q = (1, 1, U, 1, 0) := by rw [← hU]; exact gr_new (by omega) (by omega) (by omega) (by omega) (by omega)
      have C1 : ∀ W, Hid (Calls Try.prog 17 #[.agg #[.int .u32 0, .int .i64 0, .int .u64 0, .int .i64 1], .int .u64 (a : Int), .int .i64 1, .int .u64 (k : Int), .int .u64 (q : Int)] W fun x w' => x = .returned (.tuple #[.agg #[.int .u32 1, .int .i64 1, .int .u64 (U : Int), .int .i64 1], .int .i64 0]) ∧ Below W.heap.size W w') := fun W => Lib.hid (grant_any 0 0 0 1 a 1 k q W 1 1 U 1 0 hS1 (by omega) (by omega) (by omega) (by omega))
      have hv : vB 1 1 U 1 := ⟨by omega, by omega, .inr ⟨by omega, by omega⟩⟩
      have hf : frS 1 1 U 1 (a + t) q = false := decide_eq_false (fun ⟨_, _, x⟩ => by omega)
      have hS2 : grS 1 1 U 1 (a + t) 2 k q = (0, 0, 0, 0, 70) := gr_held ⟨hv, by omega, by omega⟩ (by omega) (by omega) (by omega) hf
      have C2 : ∀ W, Hid (Calls Try.prog 17 #[.agg #[.int .u32 1, .int .i64 1, .int .u64 (U : Int), .int .i64 1], .int .u64 ((a : Int) + (t : Int)), .int .i64 2, .int .u64 (k : Int), .int .u64 (q : Int)] W fun x w' => x = .returned (.tuple #[.agg #[.int .u32 0, .int .i64 0, .int .u64 0, .int .i64 0], .int .i64 70]) ∧ Below W.heap.size W w') := fun W => Lib.hid (grant_any 1 1 U 1 (a + t) 2 k q W 0 0 0 0 70 hS2 (by omega) (by omega) (by omega) (by omega))
      have C3 : ∀ W, Hid (Calls Try.prog 12 #[.agg #[.int .u32 1, .int .i64 1, .int .u64 (U : Int), .int .i64 1], .int .u64 ((a : Int) + (t : Int)), .int .u64 (q : Int)] W fun x w' => x = .returned (.bool false) ∧ Below W.heap.size W w') := fun W => Lib.hid (by have := free_any 1 1 U 1 (a + t) q W (by omega) (by omega); rw [hf] at this; exact this)
      have d1 : ((U : Int) != (a : Int) + (k : Int)) = false := by simp; omega
      have d2 : decide ((k : Int) + (q : Int) < (t : Int)) = false := decide_eq_false (by omega)
      have d3 : decide (k + q < t) = false := decide_eq_false (by omega)
      clear hS1 hS2 hv hf hU hV
      with_reducible refine (empty_any _).mono ?_
      rintro x w1 ⟨rfl, hb⟩
      have B1x := Lib.hid (B0.out.trans (hb.mono B0.out.size))
      clear hb
      go_wp2_with fail
      with_reducible refine ((C1 _).out).mono ?_
      rintro x w2 ⟨rfl, hb⟩
      have X2_n := Lib.hid (Lies.made w2 25 #[.int .u32 1, .int .i64 1, .int .u64 (U : Int), .int .i64 1])
      have B2x := Lib.hid ((B1x.out.trans (hb.mono B1x.out.size)).alloc (B1x.out.trans (hb.mono B1x.out.size)).size (.cells #[.int .u32 1, .int .i64 1, .int .u64 (U : Int), .int .i64 1] 25))
      clear hb
      go_wp2_with fail
      with_reducible refine ((C2 _).out).mono ?_
      rintro x w3 ⟨rfl, hb⟩
      have L3_0 := (X2_n.out.below hb X2_n.out.lt).alloc (.cells #[.int .u32 0, .int .i64 0, .int .u64 0, .int .i64 0] 25)
      obtain ⟨q3_0_0, q3_0_1, q3_0_2, q3_0_3⟩ := L3_0.cells4
      obtain ⟨f3_0_0, f3_0_1, f3_0_2, f3_0_3⟩ := L3_0.free4
      have X3_0 := Lib.hid L3_0
      clear L3_0
      have X3_n := Lib.hid (Lies.made w3 25 #[.int .u32 0, .int .i64 0, .int .u64 0, .int .i64 0])
      have B3x := Lib.hid ((B2x.out.trans (hb.mono B2x.out.size)).alloc (B2x.out.trans (hb.mono B2x.out.size)).size (.cells #[.int .u32 0, .int .i64 0, .int .u64 0, .int .i64 0] 25))
      clear hb
      go_wp2_with fail
      with_reducible refine ((C3 _).out).mono ?_
      rintro x w4 ⟨rfl, hb⟩
      clear q3_0_0 q3_0_1 q3_0_2 q3_0_3 f3_0_0 f3_0_1 f3_0_2 f3_0_3
      have L4_0 := X3_0.out.below hb X3_0.out.lt
      obtain ⟨q4_0_0, q4_0_1, q4_0_2, q4_0_3⟩ := L4_0.cells4
      obtain ⟨f4_0_0, f4_0_1, f4_0_2, f4_0_3⟩ := L4_0.free4
      have X4_0 := Lib.hid L4_0
      clear L4_0
      have L4_1 := X3_n.out.below hb X3_n.out.lt
      obtain ⟨q4_1_0, q4_1_1, q4_1_2, q4_1_3⟩ := L4_1.cells4
      obtain ⟨f4_1_0, f4_1_1, f4_1_2, f4_1_3⟩ := L4_1.free4
      have X4_1 := Lib.hid L4_1
      clear L4_1
      have B4x := Lib.hid (B3x.out.trans (hb.mono B3x.out.size))
      clear hb
      go_wp2_with fail
      with_reducible refine ((KN _).out).mono ?_
      rintro x w5 ⟨rfl, hb⟩
      clear q4_0_0 q4_0_1 q4_0_2 q4_0_3 f4_0_0 f4_0_1 f4_0_2 f4_0_3 q4_1_0 q4_1_1 q4_1_2 q4_1_3 f4_1_0 f4_1_1 f4_1_2 f4_1_3
      have L5_0 := X4_0.out.below hb X4_0.out.lt
      obtain ⟨q5_0_0, q5_0_1, q5_0_2, q5_0_3⟩ := L5_0.cells4
      obtain ⟨f5_0_0, f5_0_1, f5_0_2, f5_0_3⟩ := L5_0.free4
      have X5_0 := Lib.hid L5_0
      clear L5_0
      have L5_1 := X4_1.out.below hb X4_1.out.lt
      obtain ⟨q5_1_0, q5_1_1, q5_1_2, q5_1_3⟩ := L5_1.cells4
      obtain ⟨f5_1_0, f5_1_1, f5_1_2, f5_1_3⟩ := L5_1.free4
      have X5_1 := Lib.hid L5_1
      clear L5_1
      have B5x := Lib.hid (B4x.out.trans (hb.mono B4x.out.size))
      clear hb
      go_wp2
      go_ret
      exact ⟨rfl, B5x.out⟩
  · by_cases hfree : k + q < t
    · have hS1 : grS 0 0 0 1 a 2 k q = (1, 2, U, 1, 0) := by rw [← hU]; exact gr_new (by omega) (by omega) (by omega) (by omega) (by omega)
      have C1 : ∀ W, Hid (Calls Try.prog 17 #[.agg #[.int .u32 0, .int .i64 0, .int .u64 0, .int .i64 1], .int .u64 (a : Int), .int .i64 2, .int .u64 (k : Int), .int .u64 (q : Int)] W fun x w' => x = .returned (.tuple #[.agg #[.int .u32 1, .int .i64 2, .int .u64 (U : Int), .int .i64 1], .int .i64 0]) ∧ Below W.heap.size W w') := fun W => Lib.hid (grant_any 0 0 0 1 a 2 k q W 1 2 U 1 0 hS1 (by omega) (by omega) (by omega) (by omega))
      have hv : vB 1 2 U 1 := ⟨by omega, by omega, .inr ⟨by omega, by omega⟩⟩
      have hf : frS 1 2 U 1 (a + t) q = true := decide_eq_true ⟨hv, by omega, by omega⟩
      have hS2 : grS 1 2 U 1 (a + t) 1 k q = (2, 1, V, 1, 0) := by rw [← hV]; exact gr_good ⟨hv, by omega, by omega⟩ (by omega) (by omega) (by omega) hf
      have C2 : ∀ W, Hid (Calls Try.prog 17 #[.agg #[.int .u32 1, .int .i64 2, .int .u64 (U : Int), .int .i64 1], .int .u64 ((a : Int) + (t : Int)), .int .i64 1, .int .u64 (k : Int), .int .u64 (q : Int)] W fun x w' => x = .returned (.tuple #[.agg #[.int .u32 2, .int .i64 1, .int .u64 (V : Int), .int .i64 1], .int .i64 0]) ∧ Below W.heap.size W w') := fun W => Lib.hid (grant_any 1 2 U 1 (a + t) 1 k q W 2 1 V 1 0 hS2 (by omega) (by omega) (by omega) (by omega))
      have C3 : ∀ W, Hid (Calls Try.prog 12 #[.agg #[.int .u32 1, .int .i64 2, .int .u64 (U : Int), .int .i64 1], .int .u64 ((a : Int) + (t : Int)), .int .u64 (q : Int)] W fun x w' => x = .returned (.bool true) ∧ Below W.heap.size W w') := fun W => Lib.hid (by have := free_any 1 2 U 1 (a + t) q W (by omega) (by omega); rw [hf] at this; exact this)
      have d1 : ((U : Int) != (a : Int) + (k : Int)) = false := by simp; omega
      have d2 : decide ((k : Int) + (q : Int) < (t : Int)) = true := decide_eq_true (by omega)
      have d3 : decide (k + q < t) = true := decide_eq_true (by omega)
      clear hS1 hS2 hv hf hU hV
      with_reducible refine (empty_any _).mono ?_
      rintro x w1 ⟨rfl, hb⟩
      have B1x := Lib.hid (B0.out.trans (hb.mono B0.out.size))
      clear hb
      go_wp2_with fail
      with_reducible refine ((C1 _).out).mono ?_
      rintro x w2 ⟨rfl, hb⟩
      have X2_n := Lib.hid (Lies.made w2 25 #[.int .u32 1, .int .i64 2, .int .u64 (U : Int), .int .i64 1])
      have B2x := Lib.hid ((B1x.out.trans (hb.mono B1x.out.size)).alloc (B1x.out.trans (hb.mono B1x.out.size)).size (.cells #[.int .u32 1, .int .i64 2, .int .u64 (U : Int), .int .i64 1] 25))
      clear hb
      go_wp2_with fail
      with_reducible refine ((C2 _).out).mono ?_
      rintro x w3 ⟨rfl, hb⟩
      have L3_0 := (X2_n.out.below hb X2_n.out.lt).alloc (.cells #[.int .u32 2, .int .i64 1, .int .u64 (V : Int), .int .i64 1] 25)
      obtain ⟨q3_0_0, q3_0_1, q3_0_2, q3_0_3⟩ := L3_0.cells4
      obtain ⟨f3_0_0, f3_0_1, f3_0_2, f3_0_3⟩ := L3_0.free4
      have X3_0 := Lib.hid L3_0
      clear L3_0
      have X3_n := Lib.hid (Lies.made w3 25 #[.int .u32 2, .int .i64 1, .int .u64 (V : Int), .int .i64 1])
      have B3x := Lib.hid ((B2x.out.trans (hb.mono B2x.out.size)).alloc (B2x.out.trans (hb.mono B2x.out.size)).size (.cells #[.int .u32 2, .int .i64 1, .int .u64 (V : Int), .int .i64 1] 25))
      clear hb
      go_wp2_with fail
      with_reducible refine ((C3 _).out).mono ?_
      rintro x w4 ⟨rfl, hb⟩
      clear q3_0_0 q3_0_1 q3_0_2 q3_0_3 f3_0_0 f3_0_1 f3_0_2 f3_0_3
      have L4_0 := X3_0.out.below hb X3_0.out.lt
      obtain ⟨q4_0_0, q4_0_1, q4_0_2, q4_0_3⟩ := L4_0.cells4
      obtain ⟨f4_0_0, f4_0_1, f4_0_2, f4_0_3⟩ := L4_0.free4
      have X4_0 := Lib.hid L4_0
      clear L4_0
      have L4_1 := X3_n.out.below hb X3_n.out.lt
      obtain ⟨q4_1_0, q4_1_1, q4_1_2, q4_1_3⟩ := L4_1.cells4
      obtain ⟨f4_1_0, f4_1_1, f4_1_2, f4_1_3⟩ := L4_1.free4
      have X4_1 := Lib.hid L4_1
      clear L4_1
      have B4x := Lib.hid (B3x.out.trans (hb.mono B3x.out.size))
      clear hb
      go_wp2_with fail
      with_reducible refine ((KN _).out).mono ?_
      rintro x w5 ⟨rfl, hb⟩
      clear q4_0_0 q4_0_1 q4_0_2 q4_0_3 f4_0_0 f4_0_1 f4_0_2 f4_0_3 q4_1_0 q4_1_1 q4_1_2 q4_1_3 f4_1_0 f4_1_1 f4_1_2 f4_1_3
      have L5_0 := X4_0.out.below hb X4_0.out.lt
      obtain ⟨q5_0_0, q5_0_1, q5_0_2, q5_0_3⟩ := L5_0.cells4
      obtain ⟨f5_0_0, f5_0_1, f5_0_2, f5_0_3⟩ := L5_0.free4
      have X5_0 := Lib.hid L5_0
      clear L5_0
      have L5_1 := X4_1.out.below hb X4_1.out.lt
      obtain ⟨q5_1_0, q5_1_1, q5_1_2, q5_1_3⟩ := L5_1.cells4
      obtain ⟨f5_1_0, f5_1_1, f5_1_2, f5_1_3⟩ := L5_1.free4
      have X5_1 := Lib.hid L5_1
      clear L5_1
      have B5x := Lib.hid (B4x.out.trans (hb.mono B4x.out.size))
      clear hb
      go_wp2
      go_ret
      exact ⟨rfl, B5x.out⟩
    · have hS1 : grS 0 0 0 1 a 2 k q = (1, 2, U, 1, 0) := by rw [← hU]; exact gr_new (by omega) (by omega) (by omega) (by omega) (by omega)
      have C1 : ∀ W, Hid (Calls Try.prog 17 #[.agg #[.int .u32 0, .int .i64 0, .int .u64 0, .int .i64 1], .int .u64 (a : Int), .int .i64 2, .int .u64 (k : Int), .int .u64 (q : Int)] W fun x w' => x = .returned (.tuple #[.agg #[.int .u32 1, .int .i64 2, .int .u64 (U : Int), .int .i64 1], .int .i64 0]) ∧ Below W.heap.size W w') := fun W => Lib.hid (grant_any 0 0 0 1 a 2 k q W 1 2 U 1 0 hS1 (by omega) (by omega) (by omega) (by omega))
      have hv : vB 1 2 U 1 := ⟨by omega, by omega, .inr ⟨by omega, by omega⟩⟩
      have hf : frS 1 2 U 1 (a + t) q = false := decide_eq_false (fun ⟨_, _, x⟩ => by omega)
      have hS2 : grS 1 2 U 1 (a + t) 1 k q = (0, 0, 0, 0, 70) := gr_held ⟨hv, by omega, by omega⟩ (by omega) (by omega) (by omega) hf
      have C2 : ∀ W, Hid (Calls Try.prog 17 #[.agg #[.int .u32 1, .int .i64 2, .int .u64 (U : Int), .int .i64 1], .int .u64 ((a : Int) + (t : Int)), .int .i64 1, .int .u64 (k : Int), .int .u64 (q : Int)] W fun x w' => x = .returned (.tuple #[.agg #[.int .u32 0, .int .i64 0, .int .u64 0, .int .i64 0], .int .i64 70]) ∧ Below W.heap.size W w') := fun W => Lib.hid (grant_any 1 2 U 1 (a + t) 1 k q W 0 0 0 0 70 hS2 (by omega) (by omega) (by omega) (by omega))
      have C3 : ∀ W, Hid (Calls Try.prog 12 #[.agg #[.int .u32 1, .int .i64 2, .int .u64 (U : Int), .int .i64 1], .int .u64 ((a : Int) + (t : Int)), .int .u64 (q : Int)] W fun x w' => x = .returned (.bool false) ∧ Below W.heap.size W w') := fun W => Lib.hid (by have := free_any 1 2 U 1 (a + t) q W (by omega) (by omega); rw [hf] at this; exact this)
      have d1 : ((U : Int) != (a : Int) + (k : Int)) = false := by simp; omega
      have d2 : decide ((k : Int) + (q : Int) < (t : Int)) = false := decide_eq_false (by omega)
      have d3 : decide (k + q < t) = false := decide_eq_false (by omega)
      clear hS1 hS2 hv hf hU hV
      with_reducible refine (empty_any _).mono ?_
      rintro x w1 ⟨rfl, hb⟩
      have B1x := Lib.hid (B0.out.trans (hb.mono B0.out.size))
      clear hb
      go_wp2_with fail
      with_reducible refine ((C1 _).out).mono ?_
      rintro x w2 ⟨rfl, hb⟩
      have X2_n := Lib.hid (Lies.made w2 25 #[.int .u32 1, .int .i64 2, .int .u64 (U : Int), .int .i64 1])
      have B2x := Lib.hid ((B1x.out.trans (hb.mono B1x.out.size)).alloc (B1x.out.trans (hb.mono B1x.out.size)).size (.cells #[.int .u32 1, .int .i64 2, .int .u64 (U : Int), .int .i64 1] 25))
      clear hb
      go_wp2_with fail
      with_reducible refine ((C2 _).out).mono ?_
      rintro x w3 ⟨rfl, hb⟩
      have L3_0 := (X2_n.out.below hb X2_n.out.lt).alloc (.cells #[.int .u32 0, .int .i64 0, .int .u64 0, .int .i64 0] 25)
      obtain ⟨q3_0_0, q3_0_1, q3_0_2, q3_0_3⟩ := L3_0.cells4
      obtain ⟨f3_0_0, f3_0_1, f3_0_2, f3_0_3⟩ := L3_0.free4
      have X3_0 := Lib.hid L3_0
      clear L3_0
      have X3_n := Lib.hid (Lies.made w3 25 #[.int .u32 0, .int .i64 0, .int .u64 0, .int .i64 0])
      have B3x := Lib.hid ((B2x.out.trans (hb.mono B2x.out.size)).alloc (B2x.out.trans (hb.mono B2x.out.size)).size (.cells #[.int .u32 0, .int .i64 0, .int .u64 0, .int .i64 0] 25))
      clear hb
      go_wp2_with fail
      with_reducible refine ((C3 _).out).mono ?_
      rintro x w4 ⟨rfl, hb⟩
      clear q3_0_0 q3_0_1 q3_0_2 q3_0_3 f3_0_0 f3_0_1 f3_0_2 f3_0_3
      have L4_0 := X3_0.out.below hb X3_0.out.lt
      obtain ⟨q4_0_0, q4_0_1, q4_0_2, q4_0_3⟩ := L4_0.cells4
      obtain ⟨f4_0_0, f4_0_1, f4_0_2, f4_0_3⟩ := L4_0.free4
      have X4_0 := Lib.hid L4_0
      clear L4_0
      have L4_1 := X3_n.out.below hb X3_n.out.lt
      obtain ⟨q4_1_0, q4_1_1, q4_1_2, q4_1_3⟩ := L4_1.cells4
      obtain ⟨f4_1_0, f4_1_1, f4_1_2, f4_1_3⟩ := L4_1.free4
      have X4_1 := Lib.hid L4_1
      clear L4_1
      have B4x := Lib.hid (B3x.out.trans (hb.mono B3x.out.size))
      clear hb
      go_wp2_with fail
      with_reducible refine ((KN _).out).mono ?_
      rintro x w5 ⟨rfl, hb⟩
      clear q4_0_0 q4_0_1 q4_0_2 q4_0_3 f4_0_0 f4_0_1 f4_0_2 f4_0_3 q4_1_0 q4_1_1 q4_1_2 q4_1_3 f4_1_0 f4_1_1 f4_1_2 f4_1_3
      have L5_0 := X4_0.out.below hb X4_0.out.lt
      obtain ⟨q5_0_0, q5_0_1, q5_0_2, q5_0_3⟩ := L5_0.cells4
      obtain ⟨f5_0_0, f5_0_1, f5_0_2, f5_0_3⟩ := L5_0.free4
      have X5_0 := Lib.hid L5_0
      clear L5_0
      have L5_1 := X4_1.out.below hb X4_1.out.lt
      obtain ⟨q5_1_0, q5_1_1, q5_1_2, q5_1_3⟩ := L5_1.cells4
      obtain ⟨f5_1_0, f5_1_1, f5_1_2, f5_1_3⟩ := L5_1.free4
      have X5_1 := Lib.hid L5_1
      clear L5_1
      have B5x := Lib.hid (B4x.out.trans (hb.mono B4x.out.size))
      clear hb
      go_wp2
      go_ret
      exact ⟨rfl, B5x.out⟩

end Go.Proofs.Ytbcelelmckkaoaa
