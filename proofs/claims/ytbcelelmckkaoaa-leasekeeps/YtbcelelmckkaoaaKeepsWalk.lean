/-
  The walk of LeaseKeeps, out of the contracts.
-/
import Derived.Test.YtbcelelmckkaoaaKnown
import Derived.Test.YtbcelelmckkaoaaOdd
import Derived.Test.YtbcelelmckkaoaaTurn
namespace Go.Proofs.Ytbcelelmckkaoaa
open Go.RowKit
set_option linter.unusedVariables false

set_option maxRecDepth 100000 in
set_option maxHeartbeats 4000000 in
theorem leaseKeeps_walk (e : Nat) (h : Int) (u : Nat) (m : Int) (now : Nat) (who : Int) (ep n : Nat) (md : Int) (w : World) (he : e < 4294967296) (hu : u < 18446744073709551616) (hnow : now < 18446744073709551616) (hwho : -9223372036854775808 ≤ who ∧ who < 9223372036854775808) (hep : ep < 4294967296) (hn : n < 18446744073709551616) (hmd : -9223372036854775808 ≤ md ∧ md < 9223372036854775808) :
    Calls Try.prog 8 #[.agg #[.int .u32 (e : Int), .int .i64 h, .int .u64 (u : Int), .int .i64 m], .int .u64 (now : Int), .int .i64 who, .int .u32 (ep : Int), .int .u64 (n : Int), .int .i64 md] w fun x w' => x = .returned (.bool true) ∧ Below w.heap.size w w' := by
  have HB := Lib.hid (below1 w (.cells #[.int .u32 (e : Int), .int .i64 h, .int .u64 (u : Int), .int .i64 m] 25))
  have HL := Lib.hid (Lies.made w 25 #[.int .u32 (e : Int), .int .i64 h, .int .u64 (u : Int), .int .i64 m])
  have GD := guard25
  have KN := fun W => Lib.hid (known_any W)
  obtain ⟨⟨E, H, U, M, c⟩, hS⟩ : ∃ a : Ans, rnS e h u m now who ep n = a := ⟨_, rfl⟩
  obtain ⟨⟨F, I, V, N, d⟩, hT⟩ : ∃ a : Ans, tnS e h u m now who ep md = a := ⟨_, rfl⟩
  have C1 := fun W => Lib.hid (renew_any e h u m now who ep n W E H U M c hS hu hnow)
  have C3 := fun W => Lib.hid (turn_any e h u m now who ep md W F I V N d hT)
  have C5 := fun W => Lib.hid (holds_any e h u m who now W)
  by_cases hc : c = 0
  · by_cases hd : d = 0
    · subst hc
      obtain ⟨q1, q2, q3, hle, hho, q6, hck, -, -, -⟩ := rn_ok hS
      replace q1 := q1.symm
      replace q2 := q2.symm
      replace q3 := q3.symm
      subst q1 q2 q3 q6
      subst hd
      obtain ⟨p1, p2, p3, p4, hho2, p6, -, -, -⟩ := tn_ok hT
      replace p1 := p1.symm
      replace p2 := p2.symm
      replace p3 := p3.symm
      replace p4 := p4.symm
      subst p1 p2 p3 p4
      rw [show hoS e h u m who now = true from hho] at C5
      have C6 := fun W => Lib.hid (check_any e h U m W)
      rw [hck] at C6
      have x1 : decide ((U : Int) < (u : Int)) = false := decide_eq_false (by omega)
      have x2 : decide (U < u) = false := decide_eq_false (by omega)
      have NE : ∀ W, (binOp .neq 25 (.agg #[.int .u32 (e : Int), .int .i64 h, .int .u64 (u : Int), .int .i64 m]) (.agg #[.int .u32 (e : Int), .int .i64 h, .int .u64 (u : Int), .int .i64 m])).run Try.prog W = .ok (.bool false) W := fun W => by rw [run_neq25]; simp
      clear hS hT
      go_enter Try.func8, Try.ntmps8
      go_wp2_with fail
      with_reducible refine ((C1 _).out).mono ?_
      rintro x w1 ⟨rfl, hb⟩
      have L1_0 := (HL.out.below hb HL.out.lt).alloc (.cells #[.int .u32 (e : Int), .int .i64 h, .int .u64 (U : Int), .int .i64 m] 25)
      obtain ⟨q1_0_0, q1_0_1, q1_0_2, q1_0_3⟩ := L1_0.cells4
      obtain ⟨f1_0_0, f1_0_1, f1_0_2, f1_0_3⟩ := L1_0.free4
      have X1_0 := Lib.hid L1_0
      clear L1_0
      have X1_n := Lib.hid (Lies.made w1 25 #[.int .u32 (e : Int), .int .i64 h, .int .u64 (U : Int), .int .i64 m])
      have B1x := Lib.hid ((HB.out.trans (hb.mono HB.out.size)).alloc (HB.out.trans (hb.mono HB.out.size)).size (.cells #[.int .u32 (e : Int), .int .i64 h, .int .u64 (U : Int), .int .i64 m] 25))
      clear hb
      have D0 := X1_0.out.alloc (.cells #[.int .u32 (e : Int), .int .i64 h, .int .u64 (u : Int), .int .i64 m] 25)
      have D1 := X1_n.out.alloc (.cells #[.int .u32 (e : Int), .int .i64 h, .int .u64 (u : Int), .int .i64 m] 25)
      have D2 := Lies.made (w1.alloc (.cells #[.int .u32 (e : Int), .int .i64 h, .int .u64 (U : Int), .int .i64 m] 25)) 25 #[.int .u32 (e : Int), .int .i64 h, .int .u64 (u : Int), .int .i64 m]
      obtain ⟨u00, u01, u02, u03⟩ := D0.cells4
      obtain ⟨u10, u11, u12, u13⟩ := D1.cells4
      have E0 := Lib.hid D0
      have E1 := Lib.hid D1
      have E2 := Lib.hid D2
      have EB := Lib.hid (B1x.out.alloc B1x.out.size (.cells #[.int .u32 (e : Int), .int .i64 h, .int .u64 (u : Int), .int .i64 m] 25))
      clear D0 D1 D2
      have D0 := X1_0.out.alloc (.cells #[.int .u32 (e : Int), .int .i64 h, .int .u64 (U : Int), .int .i64 m] 25)
      have D1 := X1_n.out.alloc (.cells #[.int .u32 (e : Int), .int .i64 h, .int .u64 (U : Int), .int .i64 m] 25)
      obtain ⟨t00, t01, t02, t03⟩ := D0.cells4
      obtain ⟨t10, t11, t12, t13⟩ := D1.cells4
      clear D0 D1
      go_wp2_with fail
      with_reducible refine ((C5 _).out).mono ?_
      rintro x w2 ⟨rfl, hb⟩
      clear q1_0_0 q1_0_1 q1_0_2 q1_0_3 f1_0_0 f1_0_1 f1_0_2 f1_0_3 u00 u01 u02 u03 u10 u11 u12 u13 t00 t01 t02 t03 t10 t11 t12 t13
      have L2_0 := E0.out.below hb E0.out.lt
      obtain ⟨q2_0_0, q2_0_1, q2_0_2, q2_0_3⟩ := L2_0.cells4
      obtain ⟨f2_0_0, f2_0_1, f2_0_2, f2_0_3⟩ := L2_0.free4
      have X2_0 := Lib.hid L2_0
      clear L2_0
      have L2_1 := E1.out.below hb E1.out.lt
      obtain ⟨q2_1_0, q2_1_1, q2_1_2, q2_1_3⟩ := L2_1.cells4
      obtain ⟨f2_1_0, f2_1_1, f2_1_2, f2_1_3⟩ := L2_1.free4
      have X2_1 := Lib.hid L2_1
      clear L2_1
      have L2_2 := E2.out.below hb E2.out.lt
      obtain ⟨q2_2_0, q2_2_1, q2_2_2, q2_2_3⟩ := L2_2.cells4
      obtain ⟨f2_2_0, f2_2_1, f2_2_2, f2_2_3⟩ := L2_2.free4
      have X2_2 := Lib.hid L2_2
      clear L2_2
      have B2x := Lib.hid (EB.out.trans (hb.mono EB.out.size))
      clear hb
      go_wp2_with fail
      with_reducible refine ((C6 _).out).mono ?_
      rintro x w3 ⟨rfl, hb⟩
      clear q2_0_0 q2_0_1 q2_0_2 q2_0_3 f2_0_0 f2_0_1 f2_0_2 f2_0_3 q2_1_0 q2_1_1 q2_1_2 q2_1_3 f2_1_0 f2_1_1 f2_1_2 f2_1_3 q2_2_0 q2_2_1 q2_2_2 q2_2_3 f2_2_0 f2_2_1 f2_2_2 f2_2_3
      have L3_0 := X2_0.out.below hb X2_0.out.lt
      obtain ⟨q3_0_0, q3_0_1, q3_0_2, q3_0_3⟩ := L3_0.cells4
      obtain ⟨f3_0_0, f3_0_1, f3_0_2, f3_0_3⟩ := L3_0.free4
      have X3_0 := Lib.hid L3_0
      clear L3_0
      have L3_1 := X2_1.out.below hb X2_1.out.lt
      obtain ⟨q3_1_0, q3_1_1, q3_1_2, q3_1_3⟩ := L3_1.cells4
      obtain ⟨f3_1_0, f3_1_1, f3_1_2, f3_1_3⟩ := L3_1.free4
      have X3_1 := Lib.hid L3_1
      clear L3_1
      have L3_2 := X2_2.out.below hb X2_2.out.lt
      obtain ⟨q3_2_0, q3_2_1, q3_2_2, q3_2_3⟩ := L3_2.cells4
      obtain ⟨f3_2_0, f3_2_1, f3_2_2, f3_2_3⟩ := L3_2.free4
      have X3_2 := Lib.hid L3_2
      clear L3_2
      have B3x := Lib.hid (B2x.out.trans (hb.mono B2x.out.size))
      clear hb
      go_wp2_with fail
      with_reducible refine ((C3 _).out).mono ?_
      rintro x w4 ⟨rfl, hb⟩
      clear q3_0_0 q3_0_1 q3_0_2 q3_0_3 f3_0_0 f3_0_1 f3_0_2 f3_0_3 q3_1_0 q3_1_1 q3_1_2 q3_1_3 f3_1_0 f3_1_1 f3_1_2 f3_1_3 q3_2_0 q3_2_1 q3_2_2 q3_2_3 f3_2_0 f3_2_1 f3_2_2 f3_2_3
      have L4_0 := (X3_0.out.below hb X3_0.out.lt).alloc (.cells #[.int .u32 (e : Int), .int .i64 h, .int .u64 (u : Int), .int .i64 md] 25)
      obtain ⟨q4_0_0, q4_0_1, q4_0_2, q4_0_3⟩ := L4_0.cells4
      obtain ⟨f4_0_0, f4_0_1, f4_0_2, f4_0_3⟩ := L4_0.free4
      have X4_0 := Lib.hid L4_0
      clear L4_0
      have L4_1 := (X3_1.out.below hb X3_1.out.lt).alloc (.cells #[.int .u32 (e : Int), .int .i64 h, .int .u64 (u : Int), .int .i64 md] 25)
      obtain ⟨q4_1_0, q4_1_1, q4_1_2, q4_1_3⟩ := L4_1.cells4
      obtain ⟨f4_1_0, f4_1_1, f4_1_2, f4_1_3⟩ := L4_1.free4
      have X4_1 := Lib.hid L4_1
      clear L4_1
      have L4_2 := (X3_2.out.below hb X3_2.out.lt).alloc (.cells #[.int .u32 (e : Int), .int .i64 h, .int .u64 (u : Int), .int .i64 md] 25)
      obtain ⟨q4_2_0, q4_2_1, q4_2_2, q4_2_3⟩ := L4_2.cells4
      obtain ⟨f4_2_0, f4_2_1, f4_2_2, f4_2_3⟩ := L4_2.free4
      have X4_2 := Lib.hid L4_2
      clear L4_2
      have X4_n := Lib.hid (Lies.made w4 25 #[.int .u32 (e : Int), .int .i64 h, .int .u64 (u : Int), .int .i64 md])
      have B4x := Lib.hid ((B3x.out.trans (hb.mono B3x.out.size)).alloc (B3x.out.trans (hb.mono B3x.out.size)).size (.cells #[.int .u32 (e : Int), .int .i64 h, .int .u64 (u : Int), .int .i64 md] 25))
      clear hb
      have G0 := X4_0.out.alloc (.cells #[.int .u32 (e : Int), .int .i64 h, .int .u64 (u : Int), .int .i64 md] 25)
      obtain ⟨z00, z01, z02, z03⟩ := G0.cells4
      clear G0
      have G1 := X4_1.out.alloc (.cells #[.int .u32 (e : Int), .int .i64 h, .int .u64 (u : Int), .int .i64 md] 25)
      obtain ⟨z10, z11, z12, z13⟩ := G1.cells4
      clear G1
      have G2 := X4_2.out.alloc (.cells #[.int .u32 (e : Int), .int .i64 h, .int .u64 (u : Int), .int .i64 md] 25)
      obtain ⟨z20, z21, z22, z23⟩ := G2.cells4
      clear G2
      have G3 := X4_n.out.alloc (.cells #[.int .u32 (e : Int), .int .i64 h, .int .u64 (u : Int), .int .i64 md] 25)
      obtain ⟨z30, z31, z32, z33⟩ := G3.cells4
      clear G3
      have G0 := X4_0.out.alloc (.cells #[.int .u32 (e : Int), .int .i64 h, .int .u64 (u : Int), .int .i64 m] 25)
      obtain ⟨v00, v01, v02, v03⟩ := G0.cells4
      have J0 := Lib.hid G0
      clear G0
      have G1 := X4_1.out.alloc (.cells #[.int .u32 (e : Int), .int .i64 h, .int .u64 (u : Int), .int .i64 m] 25)
      obtain ⟨v10, v11, v12, v13⟩ := G1.cells4
      have J1 := Lib.hid G1
      clear G1
      have G2 := X4_2.out.alloc (.cells #[.int .u32 (e : Int), .int .i64 h, .int .u64 (u : Int), .int .i64 m] 25)
      obtain ⟨v20, v21, v22, v23⟩ := G2.cells4
      have J2 := Lib.hid G2
      clear G2
      have G3 := X4_n.out.alloc (.cells #[.int .u32 (e : Int), .int .i64 h, .int .u64 (u : Int), .int .i64 m] 25)
      obtain ⟨v30, v31, v32, v33⟩ := G3.cells4
      have J3 := Lib.hid G3
      clear G3
      have JB := Lib.hid (B4x.out.alloc B4x.out.size (.cells #[.int .u32 (e : Int), .int .i64 h, .int .u64 (u : Int), .int .i64 m] 25))
      go_wp2_with fail
      with_reducible refine ((C5 _).out).mono ?_
      rintro x w5 ⟨rfl, hb⟩
      clear q4_0_0 q4_0_1 q4_0_2 q4_0_3 f4_0_0 f4_0_1 f4_0_2 f4_0_3 q4_1_0 q4_1_1 q4_1_2 q4_1_3 f4_1_0 f4_1_1 f4_1_2 f4_1_3 q4_2_0 q4_2_1 q4_2_2 q4_2_3 f4_2_0 f4_2_1 f4_2_2 f4_2_3 z00 z01 z02 z03 z10 z11 z12 z13 z20 z21 z22 z23 z30 z31 z32 z33 v00 v01 v02 v03 v10 v11 v12 v13 v20 v21 v22 v23 v30 v31 v32 v33
      have L5_0 := J0.out.below hb J0.out.lt
      obtain ⟨q5_0_0, q5_0_1, q5_0_2, q5_0_3⟩ := L5_0.cells4
      obtain ⟨f5_0_0, f5_0_1, f5_0_2, f5_0_3⟩ := L5_0.free4
      have X5_0 := Lib.hid L5_0
      clear L5_0
      have B5x := Lib.hid (JB.out.trans (hb.mono JB.out.size))
      clear hb
      go_wp2_with fail
      with_reducible refine ((KN _).out).mono ?_
      rintro x w6 ⟨rfl, hb⟩
      clear q5_0_0 q5_0_1 q5_0_2 q5_0_3 f5_0_0 f5_0_1 f5_0_2 f5_0_3
      have B6x := Lib.hid (B5x.out.trans (hb.mono B5x.out.size))
      clear hb
      go_wp2
      go_ret
      exact ⟨rfl, B6x.out⟩
    · subst hc
      obtain ⟨q1, q2, q3, hle, hho, q6, hck, -, -, -⟩ := rn_ok hS
      replace q1 := q1.symm
      replace q2 := q2.symm
      replace q3 := q3.symm
      subst q1 q2 q3 q6
      have d1 : (d == 0) = false := by simpa using hd
      clear hd
      rw [show hoS e h u m who now = true from hho] at C5
      have C6 := fun W => Lib.hid (check_any e h U m W)
      rw [hck] at C6
      have x1 : decide ((U : Int) < (u : Int)) = false := decide_eq_false (by omega)
      have x2 : decide (U < u) = false := decide_eq_false (by omega)
      have NE : ∀ W, (binOp .neq 25 (.agg #[.int .u32 (e : Int), .int .i64 h, .int .u64 (u : Int), .int .i64 m]) (.agg #[.int .u32 (e : Int), .int .i64 h, .int .u64 (u : Int), .int .i64 m])).run Try.prog W = .ok (.bool false) W := fun W => by rw [run_neq25]; simp
      clear hS hT
      go_enter Try.func8, Try.ntmps8
      go_wp2_with fail
      with_reducible refine ((C1 _).out).mono ?_
      rintro x w1 ⟨rfl, hb⟩
      have L1_0 := (HL.out.below hb HL.out.lt).alloc (.cells #[.int .u32 (e : Int), .int .i64 h, .int .u64 (U : Int), .int .i64 m] 25)
      obtain ⟨q1_0_0, q1_0_1, q1_0_2, q1_0_3⟩ := L1_0.cells4
      obtain ⟨f1_0_0, f1_0_1, f1_0_2, f1_0_3⟩ := L1_0.free4
      have X1_0 := Lib.hid L1_0
      clear L1_0
      have X1_n := Lib.hid (Lies.made w1 25 #[.int .u32 (e : Int), .int .i64 h, .int .u64 (U : Int), .int .i64 m])
      have B1x := Lib.hid ((HB.out.trans (hb.mono HB.out.size)).alloc (HB.out.trans (hb.mono HB.out.size)).size (.cells #[.int .u32 (e : Int), .int .i64 h, .int .u64 (U : Int), .int .i64 m] 25))
      clear hb
      have D0 := X1_0.out.alloc (.cells #[.int .u32 (e : Int), .int .i64 h, .int .u64 (u : Int), .int .i64 m] 25)
      have D1 := X1_n.out.alloc (.cells #[.int .u32 (e : Int), .int .i64 h, .int .u64 (u : Int), .int .i64 m] 25)
      have D2 := Lies.made (w1.alloc (.cells #[.int .u32 (e : Int), .int .i64 h, .int .u64 (U : Int), .int .i64 m] 25)) 25 #[.int .u32 (e : Int), .int .i64 h, .int .u64 (u : Int), .int .i64 m]
      obtain ⟨u00, u01, u02, u03⟩ := D0.cells4
      obtain ⟨u10, u11, u12, u13⟩ := D1.cells4
      have E0 := Lib.hid D0
      have E1 := Lib.hid D1
      have E2 := Lib.hid D2
      have EB := Lib.hid (B1x.out.alloc B1x.out.size (.cells #[.int .u32 (e : Int), .int .i64 h, .int .u64 (u : Int), .int .i64 m] 25))
      clear D0 D1 D2
      have D0 := X1_0.out.alloc (.cells #[.int .u32 (e : Int), .int .i64 h, .int .u64 (U : Int), .int .i64 m] 25)
      have D1 := X1_n.out.alloc (.cells #[.int .u32 (e : Int), .int .i64 h, .int .u64 (U : Int), .int .i64 m] 25)
      obtain ⟨t00, t01, t02, t03⟩ := D0.cells4
      obtain ⟨t10, t11, t12, t13⟩ := D1.cells4
      clear D0 D1
      go_wp2_with fail
      with_reducible refine ((C5 _).out).mono ?_
      rintro x w2 ⟨rfl, hb⟩
      clear q1_0_0 q1_0_1 q1_0_2 q1_0_3 f1_0_0 f1_0_1 f1_0_2 f1_0_3 u00 u01 u02 u03 u10 u11 u12 u13 t00 t01 t02 t03 t10 t11 t12 t13
      have L2_0 := E0.out.below hb E0.out.lt
      obtain ⟨q2_0_0, q2_0_1, q2_0_2, q2_0_3⟩ := L2_0.cells4
      obtain ⟨f2_0_0, f2_0_1, f2_0_2, f2_0_3⟩ := L2_0.free4
      have X2_0 := Lib.hid L2_0
      clear L2_0
      have L2_1 := E1.out.below hb E1.out.lt
      obtain ⟨q2_1_0, q2_1_1, q2_1_2, q2_1_3⟩ := L2_1.cells4
      obtain ⟨f2_1_0, f2_1_1, f2_1_2, f2_1_3⟩ := L2_1.free4
      have X2_1 := Lib.hid L2_1
      clear L2_1
      have L2_2 := E2.out.below hb E2.out.lt
      obtain ⟨q2_2_0, q2_2_1, q2_2_2, q2_2_3⟩ := L2_2.cells4
      obtain ⟨f2_2_0, f2_2_1, f2_2_2, f2_2_3⟩ := L2_2.free4
      have X2_2 := Lib.hid L2_2
      clear L2_2
      have B2x := Lib.hid (EB.out.trans (hb.mono EB.out.size))
      clear hb
      go_wp2_with fail
      with_reducible refine ((C6 _).out).mono ?_
      rintro x w3 ⟨rfl, hb⟩
      clear q2_0_0 q2_0_1 q2_0_2 q2_0_3 f2_0_0 f2_0_1 f2_0_2 f2_0_3 q2_1_0 q2_1_1 q2_1_2 q2_1_3 f2_1_0 f2_1_1 f2_1_2 f2_1_3 q2_2_0 q2_2_1 q2_2_2 q2_2_3 f2_2_0 f2_2_1 f2_2_2 f2_2_3
      have L3_0 := X2_0.out.below hb X2_0.out.lt
      obtain ⟨q3_0_0, q3_0_1, q3_0_2, q3_0_3⟩ := L3_0.cells4
      obtain ⟨f3_0_0, f3_0_1, f3_0_2, f3_0_3⟩ := L3_0.free4
      have X3_0 := Lib.hid L3_0
      clear L3_0
      have L3_1 := X2_1.out.below hb X2_1.out.lt
      obtain ⟨q3_1_0, q3_1_1, q3_1_2, q3_1_3⟩ := L3_1.cells4
      obtain ⟨f3_1_0, f3_1_1, f3_1_2, f3_1_3⟩ := L3_1.free4
      have X3_1 := Lib.hid L3_1
      clear L3_1
      have L3_2 := X2_2.out.below hb X2_2.out.lt
      obtain ⟨q3_2_0, q3_2_1, q3_2_2, q3_2_3⟩ := L3_2.cells4
      obtain ⟨f3_2_0, f3_2_1, f3_2_2, f3_2_3⟩ := L3_2.free4
      have X3_2 := Lib.hid L3_2
      clear L3_2
      have B3x := Lib.hid (B2x.out.trans (hb.mono B2x.out.size))
      clear hb
      go_wp2_with fail
      with_reducible refine ((C3 _).out).mono ?_
      rintro x w4 ⟨rfl, hb⟩
      clear q3_0_0 q3_0_1 q3_0_2 q3_0_3 f3_0_0 f3_0_1 f3_0_2 f3_0_3 q3_1_0 q3_1_1 q3_1_2 q3_1_3 f3_1_0 f3_1_1 f3_1_2 f3_1_3 q3_2_0 q3_2_1 q3_2_2 q3_2_3 f3_2_0 f3_2_1 f3_2_2 f3_2_3
      have L4_0 := (X3_0.out.below hb X3_0.out.lt).alloc (.cells #[.int .u32 (F : Int), .int .i64 I, .int .u64 (V : Int), .int .i64 N] 25)
      obtain ⟨q4_0_0, q4_0_1, q4_0_2, q4_0_3⟩ := L4_0.cells4
      obtain ⟨f4_0_0, f4_0_1, f4_0_2, f4_0_3⟩ := L4_0.free4
      have X4_0 := Lib.hid L4_0
      clear L4_0
      have L4_1 := (X3_1.out.below hb X3_1.out.lt).alloc (.cells #[.int .u32 (F : Int), .int .i64 I, .int .u64 (V : Int), .int .i64 N] 25)
      obtain ⟨q4_1_0, q4_1_1, q4_1_2, q4_1_3⟩ := L4_1.cells4
      obtain ⟨f4_1_0, f4_1_1, f4_1_2, f4_1_3⟩ := L4_1.free4
      have X4_1 := Lib.hid L4_1
      clear L4_1
      have L4_2 := (X3_2.out.below hb X3_2.out.lt).alloc (.cells #[.int .u32 (F : Int), .int .i64 I, .int .u64 (V : Int), .int .i64 N] 25)
      obtain ⟨q4_2_0, q4_2_1, q4_2_2, q4_2_3⟩ := L4_2.cells4
      obtain ⟨f4_2_0, f4_2_1, f4_2_2, f4_2_3⟩ := L4_2.free4
      have X4_2 := Lib.hid L4_2
      clear L4_2
      have X4_n := Lib.hid (Lies.made w4 25 #[.int .u32 (F : Int), .int .i64 I, .int .u64 (V : Int), .int .i64 N])
      have B4x := Lib.hid ((B3x.out.trans (hb.mono B3x.out.size)).alloc (B3x.out.trans (hb.mono B3x.out.size)).size (.cells #[.int .u32 (F : Int), .int .i64 I, .int .u64 (V : Int), .int .i64 N] 25))
      clear hb
      go_wp2_with fail
      with_reducible refine ((KN _).out).mono ?_
      rintro x w5 ⟨rfl, hb⟩
      clear q4_0_0 q4_0_1 q4_0_2 q4_0_3 f4_0_0 f4_0_1 f4_0_2 f4_0_3 q4_1_0 q4_1_1 q4_1_2 q4_1_3 f4_1_0 f4_1_1 f4_1_2 f4_1_3 q4_2_0 q4_2_1 q4_2_2 q4_2_3 f4_2_0 f4_2_1 f4_2_2 f4_2_3
      have B5x := Lib.hid (B4x.out.trans (hb.mono B4x.out.size))
      clear hb
      go_wp2
      go_ret
      exact ⟨rfl, B5x.out⟩
  · by_cases hd : d = 0
    · have c1 : (c == 0) = false := by simpa using hc
      clear hc
      subst hd
      obtain ⟨p1, p2, p3, p4, hho2, p6, -, -, -⟩ := tn_ok hT
      replace p1 := p1.symm
      replace p2 := p2.symm
      replace p3 := p3.symm
      replace p4 := p4.symm
      subst p1 p2 p3 p4
      subst p6
      rw [show hoS e h u m who now = true from hho2] at C5
      have NE : ∀ W, (binOp .neq 25 (.agg #[.int .u32 (e : Int), .int .i64 h, .int .u64 (u : Int), .int .i64 m]) (.agg #[.int .u32 (e : Int), .int .i64 h, .int .u64 (u : Int), .int .i64 m])).run Try.prog W = .ok (.bool false) W := fun W => by rw [run_neq25]; simp
      clear hS hT
      go_enter Try.func8, Try.ntmps8
      go_wp2_with fail
      with_reducible refine ((C1 _).out).mono ?_
      rintro x w1 ⟨rfl, hb⟩
      have L1_0 := (HL.out.below hb HL.out.lt).alloc (.cells #[.int .u32 (E : Int), .int .i64 H, .int .u64 (U : Int), .int .i64 M] 25)
      obtain ⟨q1_0_0, q1_0_1, q1_0_2, q1_0_3⟩ := L1_0.cells4
      obtain ⟨f1_0_0, f1_0_1, f1_0_2, f1_0_3⟩ := L1_0.free4
      have X1_0 := Lib.hid L1_0
      clear L1_0
      have X1_n := Lib.hid (Lies.made w1 25 #[.int .u32 (E : Int), .int .i64 H, .int .u64 (U : Int), .int .i64 M])
      have B1x := Lib.hid ((HB.out.trans (hb.mono HB.out.size)).alloc (HB.out.trans (hb.mono HB.out.size)).size (.cells #[.int .u32 (E : Int), .int .i64 H, .int .u64 (U : Int), .int .i64 M] 25))
      clear hb
      go_wp2_with fail
      with_reducible refine ((C3 _).out).mono ?_
      rintro x w2 ⟨rfl, hb⟩
      clear q1_0_0 q1_0_1 q1_0_2 q1_0_3 f1_0_0 f1_0_1 f1_0_2 f1_0_3
      have L2_0 := (X1_0.out.below hb X1_0.out.lt).alloc (.cells #[.int .u32 (e : Int), .int .i64 h, .int .u64 (u : Int), .int .i64 md] 25)
      obtain ⟨q2_0_0, q2_0_1, q2_0_2, q2_0_3⟩ := L2_0.cells4
      obtain ⟨f2_0_0, f2_0_1, f2_0_2, f2_0_3⟩ := L2_0.free4
      have X2_0 := Lib.hid L2_0
      clear L2_0
      have L2_1 := (X1_n.out.below hb X1_n.out.lt).alloc (.cells #[.int .u32 (e : Int), .int .i64 h, .int .u64 (u : Int), .int .i64 md] 25)
      obtain ⟨q2_1_0, q2_1_1, q2_1_2, q2_1_3⟩ := L2_1.cells4
      obtain ⟨f2_1_0, f2_1_1, f2_1_2, f2_1_3⟩ := L2_1.free4
      have X2_1 := Lib.hid L2_1
      clear L2_1
      have X2_n := Lib.hid (Lies.made w2 25 #[.int .u32 (e : Int), .int .i64 h, .int .u64 (u : Int), .int .i64 md])
      have B2x := Lib.hid ((B1x.out.trans (hb.mono B1x.out.size)).alloc (B1x.out.trans (hb.mono B1x.out.size)).size (.cells #[.int .u32 (e : Int), .int .i64 h, .int .u64 (u : Int), .int .i64 md] 25))
      clear hb
      have G0 := X2_0.out.alloc (.cells #[.int .u32 (e : Int), .int .i64 h, .int .u64 (u : Int), .int .i64 md] 25)
      obtain ⟨z00, z01, z02, z03⟩ := G0.cells4
      clear G0
      have G1 := X2_1.out.alloc (.cells #[.int .u32 (e : Int), .int .i64 h, .int .u64 (u : Int), .int .i64 md] 25)
      obtain ⟨z10, z11, z12, z13⟩ := G1.cells4
      clear G1
      have G2 := X2_n.out.alloc (.cells #[.int .u32 (e : Int), .int .i64 h, .int .u64 (u : Int), .int .i64 md] 25)
      obtain ⟨z20, z21, z22, z23⟩ := G2.cells4
      clear G2
      have G0 := X2_0.out.alloc (.cells #[.int .u32 (e : Int), .int .i64 h, .int .u64 (u : Int), .int .i64 m] 25)
      obtain ⟨v00, v01, v02, v03⟩ := G0.cells4
      have J0 := Lib.hid G0
      clear G0
      have G1 := X2_1.out.alloc (.cells #[.int .u32 (e : Int), .int .i64 h, .int .u64 (u : Int), .int .i64 m] 25)
      obtain ⟨v10, v11, v12, v13⟩ := G1.cells4
      have J1 := Lib.hid G1
      clear G1
      have G2 := X2_n.out.alloc (.cells #[.int .u32 (e : Int), .int .i64 h, .int .u64 (u : Int), .int .i64 m] 25)
      obtain ⟨v20, v21, v22, v23⟩ := G2.cells4
      have J2 := Lib.hid G2
      clear G2
      have JB := Lib.hid (B2x.out.alloc B2x.out.size (.cells #[.int .u32 (e : Int), .int .i64 h, .int .u64 (u : Int), .int .i64 m] 25))
      go_wp2_with fail
      with_reducible refine ((C5 _).out).mono ?_
      rintro x w3 ⟨rfl, hb⟩
      clear q2_0_0 q2_0_1 q2_0_2 q2_0_3 f2_0_0 f2_0_1 f2_0_2 f2_0_3 q2_1_0 q2_1_1 q2_1_2 q2_1_3 f2_1_0 f2_1_1 f2_1_2 f2_1_3 z00 z01 z02 z03 z10 z11 z12 z13 z20 z21 z22 z23 v00 v01 v02 v03 v10 v11 v12 v13 v20 v21 v22 v23
      have L3_0 := J0.out.below hb J0.out.lt
      obtain ⟨q3_0_0, q3_0_1, q3_0_2, q3_0_3⟩ := L3_0.cells4
      obtain ⟨f3_0_0, f3_0_1, f3_0_2, f3_0_3⟩ := L3_0.free4
      have X3_0 := Lib.hid L3_0
      clear L3_0
      have B3x := Lib.hid (JB.out.trans (hb.mono JB.out.size))
      clear hb
      go_wp2_with fail
      with_reducible refine ((KN _).out).mono ?_
      rintro x w4 ⟨rfl, hb⟩
      clear q3_0_0 q3_0_1 q3_0_2 q3_0_3 f3_0_0 f3_0_1 f3_0_2 f3_0_3
      have B4x := Lib.hid (B3x.out.trans (hb.mono B3x.out.size))
      clear hb
      go_wp2
      go_ret
      exact ⟨rfl, B4x.out⟩
    · have c1 : (c == 0) = false := by simpa using hc
      clear hc
      have d1 : (d == 0) = false := by simpa using hd
      clear hd
      clear hS hT
      go_enter Try.func8, Try.ntmps8
      go_wp2_with fail
      with_reducible refine ((C1 _).out).mono ?_
      rintro x w1 ⟨rfl, hb⟩
      have L1_0 := (HL.out.below hb HL.out.lt).alloc (.cells #[.int .u32 (E : Int), .int .i64 H, .int .u64 (U : Int), .int .i64 M] 25)
      obtain ⟨q1_0_0, q1_0_1, q1_0_2, q1_0_3⟩ := L1_0.cells4
      obtain ⟨f1_0_0, f1_0_1, f1_0_2, f1_0_3⟩ := L1_0.free4
      have X1_0 := Lib.hid L1_0
      clear L1_0
      have X1_n := Lib.hid (Lies.made w1 25 #[.int .u32 (E : Int), .int .i64 H, .int .u64 (U : Int), .int .i64 M])
      have B1x := Lib.hid ((HB.out.trans (hb.mono HB.out.size)).alloc (HB.out.trans (hb.mono HB.out.size)).size (.cells #[.int .u32 (E : Int), .int .i64 H, .int .u64 (U : Int), .int .i64 M] 25))
      clear hb
      go_wp2_with fail
      with_reducible refine ((C3 _).out).mono ?_
      rintro x w2 ⟨rfl, hb⟩
      clear q1_0_0 q1_0_1 q1_0_2 q1_0_3 f1_0_0 f1_0_1 f1_0_2 f1_0_3
      have L2_0 := (X1_0.out.below hb X1_0.out.lt).alloc (.cells #[.int .u32 (F : Int), .int .i64 I, .int .u64 (V : Int), .int .i64 N] 25)
      obtain ⟨q2_0_0, q2_0_1, q2_0_2, q2_0_3⟩ := L2_0.cells4
      obtain ⟨f2_0_0, f2_0_1, f2_0_2, f2_0_3⟩ := L2_0.free4
      have X2_0 := Lib.hid L2_0
      clear L2_0
      have L2_1 := (X1_n.out.below hb X1_n.out.lt).alloc (.cells #[.int .u32 (F : Int), .int .i64 I, .int .u64 (V : Int), .int .i64 N] 25)
      obtain ⟨q2_1_0, q2_1_1, q2_1_2, q2_1_3⟩ := L2_1.cells4
      obtain ⟨f2_1_0, f2_1_1, f2_1_2, f2_1_3⟩ := L2_1.free4
      have X2_1 := Lib.hid L2_1
      clear L2_1
      have X2_n := Lib.hid (Lies.made w2 25 #[.int .u32 (F : Int), .int .i64 I, .int .u64 (V : Int), .int .i64 N])
      have B2x := Lib.hid ((B1x.out.trans (hb.mono B1x.out.size)).alloc (B1x.out.trans (hb.mono B1x.out.size)).size (.cells #[.int .u32 (F : Int), .int .i64 I, .int .u64 (V : Int), .int .i64 N] 25))
      clear hb
      go_wp2_with fail
      with_reducible refine ((KN _).out).mono ?_
      rintro x w3 ⟨rfl, hb⟩
      clear q2_0_0 q2_0_1 q2_0_2 q2_0_3 f2_0_0 f2_0_1 f2_0_2 f2_0_3 q2_1_0 q2_1_1 q2_1_2 q2_1_3 f2_1_0 f2_1_1 f2_1_2 f2_1_3
      have B3x := Lib.hid (B2x.out.trans (hb.mono B2x.out.size))
      clear hb
      go_wp2
      go_ret
      exact ⟨rfl, B3x.out⟩

end Go.Proofs.Ytbcelelmckkaoaa
