/-
  FenceUndo, walked.
-/
import Derived.Test.YtfcfejmammohpaaServe
import Derived.Test.YtfcfejmammohpaaSame30
import Derived.Test.YtfcfejmammohpaaKnownP
namespace Go.Proofs.Ytfcfejmammohpaa
open Go.RowKit
set_option maxRecDepth 100000
set_option linter.unusedVariables false
set_option linter.unusedSimpArgs false

/-- The steps that took effect before the one that is looked at. -/
def UdR (w1 : World) (j gX : Nat) (KX : Array Value) (D : Nat → Kx) (xo : Nat) (xs : Int) (s7 s8 : Value) (wr : World) : Prop := ∃ (k : Nat) (f : Bool), k ≤ j ∧ s8 = .int .i64 (k : Int) ∧ s7 = .bool f ∧ (∀ q, q < k → (D q).k.o = xo → (D q).k.s = xs → f = true) ∧ Lies wr gX 34 KX ∧ Below w1.heap.size w1 wr
set_option maxHeartbeats 16000000 in
theorem fenceUndo_walk (a0 : Option Addr) (n0 c0 : Nat) (w : World) (hV : CV w a0 n0 c0) (KN : ∀ W, Calls Try.prog 12 #[] W fun x w' => x = .returned (.bool true) ∧ Below W.heap.size W w') (CC : CallsOk) :
    Calls Try.prog 6 #[.slice a0 n0 c0] w fun x w' => x = .returned (.bool true) ∧ Below w.heap.size w w' := by
  have CS := Lib.hid (serve_any CC a0 n0 c0 w hV)
  have CKN := Lib.hid KN
  clear KN hV CC
  unfold ServePost at CS
  unfold St.inv St.le at CS
  go_enter Try.func6, Try.ntmps6
  go_wp2_with fail
  with_reducible refine CS.out.mono ?_
  clear CS
  rintro x w1 ⟨s, ok, rfl, hM, hI, hle⟩
  obtain ⟨ep, A, n, c, Y, Da, nd, dc, D, Ta, nt, tc, U, Oa, no, oc, Ov⟩ := s
  dsimp only at hI hle
  have SM1 := Lib.hid hM
  have HI := Lib.hid hI
  have HLE := Lib.hid hle
  have BB : Hid (Below w.heap.size w w1) := Lib.hid hM.bel
  clear hM hI hle
  obtain ⟨gs, hgs⟩ : ∃ g, g = w.heap.size := ⟨_, rfl⟩
  rw [← hgs]
  rw [← hgs] at SM1
  clear hgs
  have LS1 : Hid (Lies w1 gs 62 #[.int .u32 (ep : Int), .slice A n c, .slice Da nd dc, .slice Ta nt tc, .slice Oa no oc, .bool false]) := Lib.hid SM1.out.box
  cases ok
  · obtain ⟨m0, m1, m2, m3, m4, m5⟩ := LS1.out.cells6
    go_wp2_with fail
    with_reducible refine (CKN.out _).mono ?_
    rintro x w2 ⟨rfl, hb⟩
    have BK := Lib.hid (BB.out.trans (hb.mono BB.out.size))
    clear hb
    go_wp2
    go_ret
    exact ⟨rfl, BK.out⟩
  · obtain ⟨m0, m1, m2, m3, m4, m5⟩ := LS1.out.cells6
    go_wp2_with fail
    clear m0 m1 m2 m3 m4 m5
    go_loopw [5] (OcR w1 nd) (fun i _ => nd - (intOf i).toNat)
    case atStart => exact ⟨0, by omega, rfl, Below.refl _ _⟩
    case round =>
      obtain ⟨j, hj, rfl, hq⟩ := hrel
      have Q := Lib.hid hq
      clear hq
      have SMr := Lib.hid (SM1.out.below Q.out)
      have LSr : Hid (Lies wr gs 62 #[.int .u32 (ep : Int), .slice A n c, .slice Da nd dc, .slice Ta nt tc, .slice Oa no oc, .bool false]) := Lib.hid SMr.out.box
      have hle2 : nd ≤ 120 := HLE.out.2.2.1
      obtain ⟨m0, m1, m2, m3, m4, m5⟩ := LSr.out.cells6
      by_cases hlt : j < nd
      · have hi : (j : Int) < (nd : Int) := by omega
        obtain ⟨A', c', hv, -, -, -, hat⟩ := SMr.out.d.slice
        injection hv with z1 z2 z3
        dsimp only at z1 z3 hat
        subst z1 z3
        obtain ⟨b, off, rfl, -, -, -⟩ := hat (by omega)
        clear hat z2
        obtain ⟨xA, xn, xc, ex1, ex2⟩ := SM1.out.df j hlt
        have HR1 := Lib.hid ((SMr.out.d.at j hlt).1)
        have HD2 := Lib.hid (HI.out.d2 j hlt)
        have HD4 := Lib.hid (HI.out.d4 j hlt)
        dsimp only at ex1 ex2 HR1 HD2 HD4
        obtain ⟨xx, hxx⟩ : ∃ q, D j = q := ⟨_, rfl⟩
        rw [hxx] at HR1 ex1 ex2 HD2 HD4
        clear hxx
        obtain ⟨⟨xo, xs, xu, xa, xq, xr⟩, xK, xD⟩ := xx
        dsimp only at ex1 ex2 HR1 HD2 HD4
        subst ex1 ex2
        obtain ⟨q0, q1, q2, q3, q4, q5⟩ := HR1.out
        have Q5 := Lib.hid (Q.out.alloc Q.out.size (.cells #[.int .u32 (xo : Int), .int .i64 xs, .bool xu, .slice xA xn xc, .int .i64 xq, .slice none 0 0] 34))
        have LX5 := Lib.hid (Lies.made wr 34 #[.int .u32 (xo : Int), .int .i64 xs, .bool xu, .slice xA xn xc, .int .i64 xq, .slice none 0 0])
        go_wp2_with fail
        clear m0 m1 m2 m3 m4 m5 q0 q1 q2 q3 q4 q5 HR1 Q SMr LSr
        obtain ⟨x5, hx5⟩ : ∃ z, z = wr.alloc (.cells #[.int .u32 (xo : Int), .int .i64 xs, .bool xu, .slice xA xn xc, .int .i64 xq, .slice none 0 0] 34) := ⟨_, rfl⟩
        rw [← hx5]
        rw [← hx5] at Q5 LX5
        clear hx5
        obtain ⟨gX, hgX⟩ : ∃ g, g = wr.heap.size := ⟨_, rfl⟩
        rw [← hgX]
        rw [← hgX] at LX5
        clear hgX
        go_loopw [7, 8] (UdR w1 j gX #[.int .u32 (xo : Int), .int .i64 xs, .bool xu, .slice xA xn xc, .int .i64 xq, .slice none 0 0] D xo xs) (fun _ i _ => j - (intOf i).toNat)
        case atStart => exact ⟨0, false, by omega, rfl, rfl, (fun q hq => absurd hq (Nat.not_lt_zero q)), LX5.out, Q5.out⟩
        case round =>
          clear Q5 LX5
          obtain ⟨k, f, hk, rfl, rfl, hf, hlx, hq⟩ := hrel
          have HFk := Lib.hid hf
          have LX := Lib.hid hlx
          have Q := Lib.hid hq
          clear hf hlx hq
          have SMr := Lib.hid (SM1.out.below Q.out)
          have LSr : Hid (Lies wr gs 62 (#[.int .u32 (ep : Int), .slice A n c, .slice (some ⟨b, off, none⟩) nd dc, .slice Ta nt tc, .slice Oa no oc, .bool false])) := Lib.hid SMr.out.box
          obtain ⟨m0, m1, m2, m3, m4, m5⟩ := LSr.out.cells6
          by_cases hkj : k < j
          · have hki : (k : Int) < (j : Int) := by omega
            have hki2 : (k : Int) < (nd : Int) := by omega
            have hkn : k < nd := by omega
            obtain ⟨yA, yn, yc, ey1, ey2⟩ := SM1.out.df k hkn
            have HR2 := Lib.hid ((SMr.out.d.at k hkn).1)
            have HD2k := Lib.hid (HD2.out k hkj)
            dsimp only at ey1 ey2 HR2
            obtain ⟨yy, hyy⟩ : ∃ q, D k = q := ⟨_, rfl⟩
            have HYY := Lib.hid hyy
            rw [hyy] at HR2 ey1 ey2 HD2k
            clear hyy
            obtain ⟨⟨yo, ys, yu, ya, yq, yr⟩, yK, yD⟩ := yy
            dsimp only at ey1 ey2 HR2 HD2k
            subst ey1 ey2
            obtain ⟨q0, q1, q2, q3, q4, q5⟩ := HR2.out
            obtain ⟨x0, x1, x2, x3, x4, x5'⟩ := Lies.cells6 (LX.out.alloc (.cells #[.int .u32 (yo : Int), .int .i64 ys, .bool yu, .slice yA yn yc, .int .i64 yq, .slice none 0 0] 34))
            obtain ⟨y0, y1, y2, y3, y4, y5⟩ := (Lies.made wr 34 #[.int .u32 (yo : Int), .int .i64 ys, .bool yu, .slice yA yn yc, .int .i64 yq, .slice none 0 0]).cells6
            have LXn := Lib.hid (LX.out.alloc (.cells #[.int .u32 (yo : Int), .int .i64 ys, .bool yu, .slice yA yn yc, .int .i64 yq, .slice none 0 0] 34))
            have Qn := Lib.hid (Q.out.alloc Q.out.size (.cells #[.int .u32 (yo : Int), .int .i64 ys, .bool yu, .slice yA yn yc, .int .i64 yq, .slice none 0 0] 34))
            by_cases ho : yo = xo
            · have e1 := beq_cast ho
              by_cases hs : ys = xs
              · have e2 : (ys == xs) = true := by simp [hs]
                obtain ⟨hyu, hxu⟩ := HD2k.out ho hs
                subst hyu
                clear ho hs hxu
                cases f
                · go_wp2
                  go_roundw
                  case rel => exact ⟨k + 1, true, by omega, by go_num, rfl, (fun _ _ _ _ => rfl), LXn.out, Qn.out⟩
                  case measure => simp [intOf]; omega
                · go_wp2
                  go_roundw
                  case rel => exact ⟨k + 1, true, by omega, by go_num, rfl, (fun _ _ _ _ => rfl), LXn.out, Qn.out⟩
                  case measure => simp [intOf]; omega
              · have HNE := Lib.hid (show ¬ (yo = xo ∧ ys = xs) from fun h => hs h.2)
                have e2 := bne_int hs
                clear ho hs
                go_wp2
                go_roundw
                case rel =>
                  refine ⟨k + 1, f, by omega, by go_num, rfl, fun q hq e1 e2 => ?_, LXn.out, Qn.out⟩
                  by_cases hqk : q = k
                  · exfalso
                    rw [hqk, HYY.out] at e1 e2
                    exact HNE.out ⟨e1, e2⟩
                  · exact HFk.out q (by omega) e1 e2
                case measure => simp [intOf]; omega
            · have HNE := Lib.hid (show ¬ (yo = xo ∧ ys = xs) from fun h => ho h.1)
              have e1 := bne_cast ho
              clear ho
              go_wp2
              go_roundw
              case rel =>
                refine ⟨k + 1, f, by omega, by go_num, rfl, fun q hq e1 e2 => ?_, LXn.out, Qn.out⟩
                by_cases hqk : q = k
                · exfalso
                  rw [hqk, HYY.out] at e1 e2
                  exact HNE.out ⟨e1, e2⟩
                · exact HFk.out q (by omega) e1 e2
              case measure => simp [intOf]; omega
          · have e0 : decide ((k : Int) < (j : Int)) = false := by rw [decide_eq_false_iff_not]; omega
            have e0b : decide (k < j) = false := by rw [decide_eq_false_iff_not]; omega
            obtain ⟨x0, x1, x2, x3, x4, x5'⟩ := LX.out.cells6
            cases xu
            · go_wp2
              go_roundw
              case rel => exact ⟨j + 1, by omega, by go_num, Q.out⟩
              case measure => simp [intOf]; omega
            · obtain ⟨q, hq, h1, h2, -⟩ := HD4.out rfl
              have hf : f = true := HFk.out q (by omega) h1 h2
              subst hf
              go_wp2
              go_roundw
              case rel => exact ⟨j + 1, by omega, by go_num, Q.out⟩
              case measure => simp [intOf]; omega
      · have e0 : decide ((j : Int) < (nd : Int)) = false := by rw [decide_eq_false_iff_not]; omega
        have e0b : decide (j < nd) = false := by rw [decide_eq_false_iff_not]; omega
        have BE := Lib.hid (BB.out.trans (Q.out.mono BB.out.size))
        go_wp2_with fail
        with_reducible refine (CKN.out _).mono ?_
        rintro x v5 ⟨rfl, hb⟩
        have BK := Lib.hid (BE.out.trans (hb.mono BE.out.size))
        clear hb
        go_wp2
        go_ret
        exact ⟨rfl, BK.out⟩

end Go.Proofs.Ytfcfejmammohpaa
