/-
  FenceOnce, walked.
-/
import Derived.Test.YtfcfejmammohpaaServe
import Derived.Test.YtfcfejmammohpaaSame30
import Derived.Test.YtfcfejmammohpaaSameK
import Derived.Test.YtfcfejmammohpaaKnownP
import Derived.Deep.RegionHeld3
namespace Go.Proofs.Ytfcfejmammohpaa
open Go.RowKit
set_option maxRecDepth 100000
set_option linter.unusedVariables false
set_option linter.unusedSimpArgs false

set_option maxHeartbeats 16000000 in
theorem fenceOnce_walk (a0 : Option Addr) (n0 c0 : Nat) (w : World) (hV : CV w a0 n0 c0) (KN : ∀ W, Calls Try.prog 12 #[] W fun x w' => x = .returned (.bool true) ∧ Below W.heap.size W w') (CC : CallsOk) :
    Calls Try.prog 5 #[.slice a0 n0 c0] w fun x w' => x = .returned (.bool true) ∧ Below w.heap.size w w' := by
  have CS := Lib.hid (serve_any CC a0 n0 c0 w hV)
  have CKN := Lib.hid KN
  clear KN hV CC
  unfold ServePost at CS
  unfold St.inv St.le at CS
  go_enter Try.func5, Try.ntmps5
  go_wp2_with fail
  with_reducible refine CS.out.mono ?_
  clear CS
  rintro x w1 ⟨s, ok, rfl, hM, hI, hle⟩
  obtain ⟨ep, A, n, c, Y, Da, nd, dc, D, Ta, nt, tc, U, Oa, no, oc, Ov⟩ := s
  dsimp only at hI hle
  have SM1 := Lib.hid hM
  have HI := Lib.hid hI
  have HLE := Lib.hid hle
  have BB : Hid (Below w.heap.size w w1) := Lib.hid hM.bel
  clear hM hI hle
  obtain ⟨gs, hgs⟩ : ∃ g, g = w.heap.size := ⟨_, rfl⟩
  rw [← hgs]
  rw [← hgs] at SM1
  clear hgs
  have LS1 : Hid (Lies w1 gs 62 #[.int .u32 (ep : Int), .slice A n c, .slice Da nd dc, .slice Ta nt tc, .slice Oa no oc, .bool false]) := Lib.hid SM1.out.box
  cases ok
  · obtain ⟨m0, m1, m2, m3, m4, m5⟩ := LS1.out.cells6
    go_wp2_with fail
    with_reducible refine (CKN.out _).mono ?_
    rintro x w2 ⟨rfl, hb⟩
    have BK := Lib.hid (BB.out.trans (hb.mono BB.out.size))
    clear hb
    go_wp2
    go_ret
    exact ⟨rfl, BK.out⟩
  · obtain ⟨m0, m1, m2, m3, m4, m5⟩ := LS1.out.cells6
    go_wp2_with fail
    clear m0 m1 m2 m3 m4 m5
    go_loopw [5] (OcR w1 nd) (fun i _ => nd - (intOf i).toNat)
    case atStart => exact ⟨0, by omega, rfl, Below.refl _ _⟩
    case round =>
      obtain ⟨j, hj, rfl, hq⟩ := hrel
      have Q := Lib.hid hq
      clear hq
      have SMr := Lib.hid (SM1.out.below Q.out)
      have LSr : Hid (Lies wr gs 62 #[.int .u32 (ep : Int), .slice A n c, .slice Da nd dc, .slice Ta nt tc, .slice Oa no oc, .bool false]) := Lib.hid SMr.out.box
      have hle2 : nd ≤ 120 ∧ nt ≤ 120 := ⟨HLE.out.2.2.1, HLE.out.2.1⟩
      obtain ⟨m0, m1, m2, m3, m4, m5⟩ := LSr.out.cells6
      by_cases hlt : j < nd
      · have hi : (j : Int) < (nd : Int) := by omega
        go_wp2_with fail
        clear m0 m1 m2 m3 m4 m5
        go_loopw [6] (OcR w1 j) (fun i _ => j - (intOf i).toNat)
        case atStart => exact ⟨0, by omega, rfl, Q.out⟩
        case round =>
          clear Q SMr LSr
          obtain ⟨k, hk, rfl, hq⟩ := hrel
          have Q := Lib.hid hq
          clear hq
          have SMr := Lib.hid (SM1.out.below Q.out)
          have LSr : Hid (Lies wr gs 62 #[.int .u32 (ep : Int), .slice A n c, .slice Da nd dc, .slice Ta nt tc, .slice Oa no oc, .bool false]) := Lib.hid SMr.out.box
          by_cases hkj : k < j
          · have hki : (k : Int) < (j : Int) := by omega
            have hki2 : (k : Int) < (nd : Int) := by omega
            have hkn : k < nd := by omega
            obtain ⟨A', c', hv, -, -, -, hat⟩ := SMr.out.d.slice
            injection hv with z1 z2 z3
            dsimp only at z1 z3 hat
            subst z1 z3
            obtain ⟨b, off, rfl, -, -, -⟩ := hat (by omega)
            clear hat z2
            have HIJ := Lib.hid (HI.out.d2 j hlt k hkj)
            obtain ⟨xA, xn, xc, ex1, ex2⟩ := SM1.out.df j hlt
            obtain ⟨yA, yn, yc, ey1, ey2⟩ := SM1.out.df k hkn
            dsimp only at ex1 ex2 ey1 ey2 HIJ
            have HR1 := Lib.hid (fun W (hb : Below w1.heap.size w1 W) => ((SM1.out.below hb).d.at j hlt).1)
            have HR2 := Lib.hid (fun W (hb : Below w1.heap.size w1 W) => ((SM1.out.below hb).d.at k hkn).1)
            dsimp only at HR1 HR2
            obtain ⟨xx, hxx⟩ : ∃ q, D j = q := ⟨_, rfl⟩
            obtain ⟨yy, hyy⟩ : ∃ q, D k = q := ⟨_, rfl⟩
            rw [hxx] at HR1 ex1 ex2 HIJ
            rw [hyy] at HR2 ey1 ey2 HIJ
            clear hxx hyy
            obtain ⟨⟨xo, xs, xu, xa, xq, xr⟩, xK, xD⟩ := xx
            obtain ⟨⟨yo, ys, yu, ya, yq, yr⟩, yK, yD⟩ := yy
            dsimp only at *
            subst ex1 ex2 ey1 ey2
            have HSW : Hid (∀ W, Below w1.heap.size w1 W → (W.cell? ⟨gs, 2, none⟩ = some (.slice (some ⟨b, off, none⟩) nd dc) ∧ W.cell? ⟨b, off + j * 6, none⟩ = some (.int .u32 (xo : Int)) ∧ W.cell? ⟨b, off + j * 6 + 1, none⟩ = some (.int .i64 xs) ∧ W.cell? ⟨b, off + j * 6 + 2, none⟩ = some (.bool xu) ∧ W.cell? ⟨b, off + j * 6 + 3, none⟩ = some (.slice xA xn xc) ∧ W.cell? ⟨b, off + j * 6 + 4, none⟩ = some (.int .i64 xq) ∧ W.cell? ⟨b, off + j * 6 + 5, none⟩ = some (.slice none 0 0) ∧ W.cell? ⟨b, off + k * 6, none⟩ = some (.int .u32 (yo : Int)) ∧ W.cell? ⟨b, off + k * 6 + 1, none⟩ = some (.int .i64 ys) ∧ W.cell? ⟨b, off + k * 6 + 2, none⟩ = some (.bool yu) ∧ W.cell? ⟨b, off + k * 6 + 3, none⟩ = some (.slice yA yn yc) ∧ W.cell? ⟨b, off + k * 6 + 4, none⟩ = some (.int .i64 yq) ∧ W.cell? ⟨b, off + k * 6 + 5, none⟩ = some (.slice none 0 0))) := Lib.hid (fun W hb => by
              have h0 : Lies W gs 62 _ := (SM1.out.below hb).box
              obtain ⟨_, _, g2, g3, _, _⟩ := h0.cells6
              obtain ⟨a0, a1, a2, a3, a4, a5⟩ := HR1.out W hb
              obtain ⟨b0, b1, b2, b3, b4, b5⟩ := HR2.out W hb
              exact ⟨g2, a0, a1, a2, a3, a4, a5, b0, b1, b2, b3, b4, b5⟩)
            have C30 := Lib.hid (fun W => same30 xo xs xu xA xn xc xq none 0 0 yo ys yu yA yn yc yq none 0 0 W false (by symm; rw [decide_eq_false_iff_not]; rintro ⟨h1, h2, h3⟩; have h4 := HIJ.out h1.symm h2.symm; rw [h4.1, h4.2] at h3; cases h3))
            obtain ⟨m0, m1, m2, m3, m4, m5⟩ := LSr.out.cells6
            go_wp2_with fail
            clear m0 m1 m2 m3 m4 m5
            refine wp_region_noPanic ?_
            refine wp_region_held_drew (S := fun W => W.cell? ⟨gs, 2, none⟩ = some (.slice (some ⟨b, off, none⟩) nd dc) ∧ W.cell? ⟨b, off + j * 6, none⟩ = some (.int .u32 (xo : Int)) ∧ W.cell? ⟨b, off + j * 6 + 1, none⟩ = some (.int .i64 xs) ∧ W.cell? ⟨b, off + j * 6 + 2, none⟩ = some (.bool xu) ∧ W.cell? ⟨b, off + j * 6 + 3, none⟩ = some (.slice xA xn xc) ∧ W.cell? ⟨b, off + j * 6 + 4, none⟩ = some (.int .i64 xq) ∧ W.cell? ⟨b, off + j * 6 + 5, none⟩ = some (.slice none 0 0) ∧ W.cell? ⟨b, off + k * 6, none⟩ = some (.int .u32 (yo : Int)) ∧ W.cell? ⟨b, off + k * 6 + 1, none⟩ = some (.int .i64 ys) ∧ W.cell? ⟨b, off + k * 6 + 2, none⟩ = some (.bool yu) ∧ W.cell? ⟨b, off + k * 6 + 3, none⟩ = some (.slice yA yn yc) ∧ W.cell? ⟨b, off + k * 6 + 4, none⟩ = some (.int .i64 yq) ∧ W.cell? ⟨b, off + k * 6 + 5, none⟩ = some (.slice none 0 0)) (by kernel_rfl) (HSW.out wr Q.out) (fun hH0 => ?_)
            refine any_take 0 41 ?vn1x0 rfl rfl (by kernel_rfl) (by kernel_rfl) (by kernel_rfl) (fun _ _ _ h => h) (by rfl) ?hyn1x0 hH0 ?restn1x0
            case hyn1x0 => ((intro W hSw); obtain ⟨s0, s1, s2, s3, s4, s5, s6, s7, s8, s9, s10, s11, s12⟩ := hSw; go_simp; (try with_reducible rfl))
            try simp only [Act.put, List.setIfInBounds_toArray, List.set_cons_zero, List.set_cons_succ]
            refine any_take 1 42 ?vn1x1 rfl rfl (by kernel_rfl) (by kernel_rfl) (by kernel_rfl) (fun _ _ _ h => h) (by rfl) ?hyn1x1 hH0 ?restn1x1
            case hyn1x1 => ((intro W hSw); obtain ⟨s0, s1, s2, s3, s4, s5, s6, s7, s8, s9, s10, s11, s12⟩ := hSw; go_simp; (try with_reducible rfl))
            try simp only [Act.put, List.setIfInBounds_toArray, List.set_cons_zero, List.set_cons_succ]
            refine any_take 2 43 ?vn1x2 rfl rfl (by kernel_rfl) (by kernel_rfl) (by kernel_rfl) (fun _ _ _ h => h) (by rfl) ?hyn1x2 hH0 ?restn1x2
            case hyn1x2 => ((intro W hSw); obtain ⟨s0, s1, s2, s3, s4, s5, s6, s7, s8, s9, s10, s11, s12⟩ := hSw; go_simp; (try with_reducible rfl))
            try simp only [Act.put, List.setIfInBounds_toArray, List.set_cons_zero, List.set_cons_succ]
            refine any_take 3 44 ?vn1x3 rfl rfl (by kernel_rfl) (by kernel_rfl) (by kernel_rfl) (fun _ _ _ h => h) (by rfl) ?hyn1x3 hH0 ?restn1x3
            case hyn1x3 => ((intro W hSw); obtain ⟨s0, s1, s2, s3, s4, s5, s6, s7, s8, s9, s10, s11, s12⟩ := hSw; go_simp; (try with_reducible rfl))
            try simp only [Act.put, List.setIfInBounds_toArray, List.set_cons_zero, List.set_cons_succ]
            refine any_take 4 45 ?vn1x4 rfl rfl (by kernel_rfl) (by kernel_rfl) (by kernel_rfl) (fun _ _ _ h => h) (by rfl) ?hyn1x4 hH0 ?restn1x4
            case hyn1x4 => ((intro W hSw); obtain ⟨s0, s1, s2, s3, s4, s5, s6, s7, s8, s9, s10, s11, s12⟩ := hSw; go_simp; (try with_reducible rfl))
            try simp only [Act.put, List.setIfInBounds_toArray, List.set_cons_zero, List.set_cons_succ]
            refine any_take 5 46 ?vn1x5 rfl rfl (by kernel_rfl) (by kernel_rfl) (by kernel_rfl) (fun _ _ _ h => h) (by rfl) ?hyn1x5 hH0 ?restn1x5
            case hyn1x5 => ((intro W hSw); obtain ⟨s0, s1, s2, s3, s4, s5, s6, s7, s8, s9, s10, s11, s12⟩ := hSw; go_simp; (try with_reducible rfl))
            try simp only [Act.put, List.setIfInBounds_toArray, List.set_cons_zero, List.set_cons_succ]
            refine any_take 6 47 ?vn1x6 rfl rfl (by kernel_rfl) (by kernel_rfl) (by kernel_rfl) (fun _ _ _ h => h) (by rfl) ?hyn1x6 hH0 ?restn1x6
            case hyn1x6 => ((intro W hSw); obtain ⟨s0, s1, s2, s3, s4, s5, s6, s7, s8, s9, s10, s11, s12⟩ := hSw; go_simp; (try with_reducible rfl))
            try simp only [Act.put, List.setIfInBounds_toArray, List.set_cons_zero, List.set_cons_succ]
            refine any_take 7 48 ?vn1x7 rfl rfl (by kernel_rfl) (by kernel_rfl) (by kernel_rfl) (fun _ _ _ h => h) (by rfl) ?hyn1x7 hH0 ?restn1x7
            case hyn1x7 => ((intro W hSw); obtain ⟨s0, s1, s2, s3, s4, s5, s6, s7, s8, s9, s10, s11, s12⟩ := hSw; go_simp; (try with_reducible rfl))
            try simp only [Act.put, List.setIfInBounds_toArray, List.set_cons_zero, List.set_cons_succ]
            refine any_take 8 49 ?vn1x8 rfl rfl (by kernel_rfl) (by kernel_rfl) (by kernel_rfl) (fun _ _ _ h => h) (by rfl) ?hyn1x8 hH0 ?restn1x8
            case hyn1x8 => ((intro W hSw); obtain ⟨s0, s1, s2, s3, s4, s5, s6, s7, s8, s9, s10, s11, s12⟩ := hSw; go_simp; (try with_reducible rfl))
            try simp only [Act.put, List.setIfInBounds_toArray, List.set_cons_zero, List.set_cons_succ]
            refine any_take 9 50 ?vn1x9 rfl rfl (by kernel_rfl) (by kernel_rfl) (by kernel_rfl) (fun _ _ _ h => h) (by rfl) ?hyn1x9 hH0 ?restn1x9
            case hyn1x9 => ((intro W hSw); obtain ⟨s0, s1, s2, s3, s4, s5, s6, s7, s8, s9, s10, s11, s12⟩ := hSw; go_simp; (try with_reducible rfl))
            try simp only [Act.put, List.setIfInBounds_toArray, List.set_cons_zero, List.set_cons_succ]
            refine any_take 10 51 ?vn1x10 rfl rfl (by kernel_rfl) (by kernel_rfl) (by kernel_rfl) (fun _ _ _ h => h) (by rfl) ?hyn1x10 hH0 ?restn1x10
            case hyn1x10 => ((intro W hSw); obtain ⟨s0, s1, s2, s3, s4, s5, s6, s7, s8, s9, s10, s11, s12⟩ := hSw; go_simp; (try with_reducible rfl))
            try simp only [Act.put, List.setIfInBounds_toArray, List.set_cons_zero, List.set_cons_succ]
            refine any_take 11 52 ?vn1x11 rfl rfl (by kernel_rfl) (by kernel_rfl) (by kernel_rfl) (fun _ _ _ h => h) (by rfl) ?hyn1x11 hH0 ?restn1x11
            case hyn1x11 => ((intro W hSw); obtain ⟨s0, s1, s2, s3, s4, s5, s6, s7, s8, s9, s10, s11, s12⟩ := hSw; go_simp; (try with_reducible rfl))
            try simp only [Act.put, List.setIfInBounds_toArray, List.set_cons_zero, List.set_cons_succ]
            refine any_take 12 53 ?vn1x12 rfl rfl (by kernel_rfl) (by kernel_rfl) (by kernel_rfl) (fun _ _ _ h => h) (by rfl) ?hyn1x12 hH0 ?restn1x12
            case hyn1x12 => ((intro W hSw); obtain ⟨s0, s1, s2, s3, s4, s5, s6, s7, s8, s9, s10, s11, s12⟩ := hSw; go_simp; (try with_reducible rfl))
            try simp only [Act.put, List.setIfInBounds_toArray, List.set_cons_zero, List.set_cons_succ]
            refine any_take 13 54 ?vn1x13 rfl rfl (by kernel_rfl) (by kernel_rfl) (by kernel_rfl) (fun _ _ _ h => h) (by rfl) ?hyn1x13 hH0 ?restn1x13
            case hyn1x13 => ((intro W hSw); obtain ⟨s0, s1, s2, s3, s4, s5, s6, s7, s8, s9, s10, s11, s12⟩ := hSw; go_simp; (try with_reducible rfl))
            try simp only [Act.put, List.setIfInBounds_toArray, List.set_cons_zero, List.set_cons_succ]
            refine wpAnyH_ready (rs := [14]) (by kernel_rfl) (by simp) ?_
            refine AllReadyH.cons rfl (fun K hK => ?_) AllReadyH.nil
            go_simp
            go_at_call 30
            with_reducible refine (C30.out _).mono ?_
            rintro x wq ⟨rfl, hb⟩
            have Qn := Lib.hid (Q.out.drew.trans (hb.mono Q.out.size))
            clear hb
            refine hK.out _ _ ((HSW.out wq Qn.out)) (fun hH1 => ?_)
            clear hK K
            try simp only [Act.put, List.setIfInBounds_toArray, List.set_cons_zero, List.set_cons_succ]
            clear hH0 hH1
            refine wpAnyH_done (by kernel_rfl) ?_ _
            refine NoPanic.normal ?_
            go_wp2
            go_roundw
            case rel => exact ⟨k + 1, by omega, by go_num, Qn.out⟩
            case measure => simp [intOf]; omega
          · have e0 : decide ((k : Int) < (j : Int)) = false := by rw [decide_eq_false_iff_not]; omega
            have e0b : decide (k < j) = false := by rw [decide_eq_false_iff_not]; omega
            go_wp2
            go_roundw
            case rel => exact ⟨j + 1, by omega, by go_num, Q.out⟩
            case measure => simp [intOf]; omega
      · have e0 : decide ((j : Int) < (nd : Int)) = false := by rw [decide_eq_false_iff_not]; omega
        have e0b : decide (j < nd) = false := by rw [decide_eq_false_iff_not]; omega
        go_wp2_with fail
        clear m0 m1 m2 m3 m4 m5 e0 e0b hlt hj hle2 LSr SMr
        have Qe := Q
        clear Q
        go_loopw [7] (OcR w1 nt) (fun i _ => nt - (intOf i).toNat)
        case atStart => exact ⟨0, by omega, rfl, Qe.out⟩
        case round =>
          obtain ⟨j, hj, rfl, hq⟩ := hrel
          have Q := Lib.hid hq
          clear hq
          have SMr := Lib.hid (SM1.out.below Q.out)
          have LSr : Hid (Lies wr gs 62 #[.int .u32 (ep : Int), .slice A n c, .slice Da nd dc, .slice Ta nt tc, .slice Oa no oc, .bool false]) := Lib.hid SMr.out.box
          have hle2 : nd ≤ 120 ∧ nt ≤ 120 := ⟨HLE.out.2.2.1, HLE.out.2.1⟩
          obtain ⟨m0, m1, m2, m3, m4, m5⟩ := LSr.out.cells6
          by_cases hlt : j < nt
          · have hi : (j : Int) < (nt : Int) := by omega
            go_wp2_with fail
            clear m0 m1 m2 m3 m4 m5
            go_loopw [8] (OcR w1 j) (fun i _ => j - (intOf i).toNat)
            case atStart => exact ⟨0, by omega, rfl, Q.out⟩
            case round =>
              clear Q SMr LSr
              obtain ⟨k, hk, rfl, hq⟩ := hrel
              have Q := Lib.hid hq
              clear hq
              have SMr := Lib.hid (SM1.out.below Q.out)
              have LSr : Hid (Lies wr gs 62 #[.int .u32 (ep : Int), .slice A n c, .slice Da nd dc, .slice Ta nt tc, .slice Oa no oc, .bool false]) := Lib.hid SMr.out.box
              by_cases hkj : k < j
              · have hki : (k : Int) < (j : Int) := by omega
                have hki2 : (k : Int) < (nt : Int) := by omega
                have hkn : k < nt := by omega
                obtain ⟨A', c', hv, -, -, -, hat⟩ := SMr.out.t.row.slice
                injection hv with z1 z2 z3
                dsimp only at z1 z3 hat
                subst z1 z3
                obtain ⟨b, off, rfl, -, -, -⟩ := hat (by omega)
                clear hat z2
                have HT1 := Lib.hid (HI.out.t1 j hlt)
                have HT2 := Lib.hid (HI.out.t1 k hkn)
                obtain ⟨xA, xc, ex1, -⟩ := (SM1.out.t.a j hlt).slice
                obtain ⟨xB, xd, ex2, -⟩ := (SM1.out.t.r j hlt).slice
                obtain ⟨yA, yc, ey1, -⟩ := (SM1.out.t.a k hkn).slice
                obtain ⟨yB, yd, ey2, -⟩ := (SM1.out.t.r k hkn).slice
                dsimp only at ex1 ex2 ey1 ey2 HT1 HT2
                have HKX := Lib.hid (fun W (hb : Below w1.heap.size w1 W) => (SM1.out.below hb).t.kt j hlt)
                have HKY := Lib.hid (fun W (hb : Below w1.heap.size w1 W) => (SM1.out.below hb).t.kt k hkn)
                dsimp only at HKX HKY
                have HR1 := Lib.hid (fun W (hb : Below w1.heap.size w1 W) => ((SM1.out.below hb).t.row.at j hlt).1)
                have HR2 := Lib.hid (fun W (hb : Below w1.heap.size w1 W) => ((SM1.out.below hb).t.row.at k hkn).1)
                dsimp only at HR1 HR2
                obtain ⟨xx, hxx⟩ : ∃ q, U j = q := ⟨_, rfl⟩
                obtain ⟨yy, hyy⟩ : ∃ q, U k = q := ⟨_, rfl⟩
                rw [hxx] at HR1 ex1 ex2 HT1 HKX
                rw [hyy] at HR2 ey1 ey2 HT2 HKY
                clear hxx hyy
                obtain ⟨⟨xo, xs, xu, xa, xq, xr⟩, xK, xD⟩ := xx
                obtain ⟨⟨yo, ys, yu, ya, yq, yr⟩, yK, yD⟩ := yy
                dsimp only at *
                subst ex1 ex2 ey1 ey2
                obtain ⟨xn, hxn⟩ : ∃ q, xa.length = q := ⟨_, rfl⟩
                obtain ⟨xm, hxm⟩ : ∃ q, xr.length = q := ⟨_, rfl⟩
                obtain ⟨yn, hyn⟩ : ∃ q, ya.length = q := ⟨_, rfl⟩
                obtain ⟨ym, hym⟩ : ∃ q, yr.length = q := ⟨_, rfl⟩
                have CSK := Lib.hid (fun W (hb : Below w1.heap.size w1 W) => sameKept_any _ _ W (HKX.out W hb) (HKY.out W hb))
                dsimp only at CSK
                rw [hxn, hxm, hyn, hym] at CSK
                rw [hxn, hxm] at HR1
                rw [hyn, hym] at HR2
                clear hxn hxm hyn hym HKX HKY
                have HSW : Hid (∀ W, Below w1.heap.size w1 W → (W.cell? ⟨gs, 3, none⟩ = some (.slice (some ⟨b, off, none⟩) nt tc) ∧ W.cell? ⟨b, off + j * 6, none⟩ = some (.int .u32 (xo : Int)) ∧ W.cell? ⟨b, off + j * 6 + 1, none⟩ = some (.int .i64 xs) ∧ W.cell? ⟨b, off + j * 6 + 2, none⟩ = some (.bool xu) ∧ W.cell? ⟨b, off + j * 6 + 3, none⟩ = some (.slice xA xn xc) ∧ W.cell? ⟨b, off + j * 6 + 4, none⟩ = some (.int .i64 xq) ∧ W.cell? ⟨b, off + j * 6 + 5, none⟩ = some (.slice xB xm xd) ∧ W.cell? ⟨b, off + k * 6, none⟩ = some (.int .u32 (yo : Int)) ∧ W.cell? ⟨b, off + k * 6 + 1, none⟩ = some (.int .i64 ys) ∧ W.cell? ⟨b, off + k * 6 + 2, none⟩ = some (.bool yu) ∧ W.cell? ⟨b, off + k * 6 + 3, none⟩ = some (.slice yA yn yc) ∧ W.cell? ⟨b, off + k * 6 + 4, none⟩ = some (.int .i64 yq) ∧ W.cell? ⟨b, off + k * 6 + 5, none⟩ = some (.slice yB ym yd))) := Lib.hid (fun W hb => by
                  have h0 : Lies W gs 62 _ := (SM1.out.below hb).box
                  obtain ⟨_, _, g2, g3, _, _⟩ := h0.cells6
                  obtain ⟨a0, a1, a2, a3, a4, a5⟩ := HR1.out W hb
                  obtain ⟨b0, b1, b2, b3, b4, b5⟩ := HR2.out W hb
                  exact ⟨g3, a0, a1, a2, a3, a4, a5, b0, b1, b2, b3, b4, b5⟩)
                obtain ⟨m0, m1, m2, m3, m4, m5⟩ := LSr.out.cells6
                go_wp2_with fail
                clear m0 m1 m2 m3 m4 m5
                by_cases hsame : xo = yo ∧ xs = ys ∧ xu = yu
                · obtain ⟨p1, hp1, ep1⟩ := HT1.out
                  obtain ⟨p2, hp2, ep2⟩ := HT2.out
                  have heq : (⟨xo, xs, xu, xa, xq, xr⟩ : Kp) = ⟨yo, ys, yu, ya, yq, yr⟩ := by
                    have hk1 : (Y p1).k.k = kn xo xs xu := by rw [← ep1]
                    have hk2 : (Y p2).k.k = kn xo xs xu := by rw [← ep2, hsame.1, hsame.2.1, hsame.2.2]
                    have h1 := (has_of (T := (fun i => (Y i).k)) HI.out.ok hp1 hk1).1
                    have h2 := (has_of (T := (fun i => (Y i).k)) HI.out.ok hp2 hk2).1
                    rw [ep1, ep2, ← h1, ← h2]
                  have hsk : sameK (⟨xo, xs, xu, xa, xq, xr⟩ : Kp) ⟨yo, ys, yu, ya, yq, yr⟩ = true := by rw [heq]; exact sameK_self _
                  rw [hsk] at CSK
                  clear ep1 ep2 heq hp1 hp2 hsk
                  have C30 := Lib.hid (fun W => same30 xo xs xu xA xn xc xq xB xm xd yo ys yu yA yn yc yq yB ym yd W true (by symm; exact decide_eq_true hsame))
                  clear hsame
                  refine wp_region_noPanic ?_
                  refine wp_region_held_drew (S := fun W => W.cell? ⟨gs, 3, none⟩ = some (.slice (some ⟨b, off, none⟩) nt tc) ∧ W.cell? ⟨b, off + j * 6, none⟩ = some (.int .u32 (xo : Int)) ∧ W.cell? ⟨b, off + j * 6 + 1, none⟩ = some (.int .i64 xs) ∧ W.cell? ⟨b, off + j * 6 + 2, none⟩ = some (.bool xu) ∧ W.cell? ⟨b, off + j * 6 + 3, none⟩ = some (.slice xA xn xc) ∧ W.cell? ⟨b, off + j * 6 + 4, none⟩ = some (.int .i64 xq) ∧ W.cell? ⟨b, off + j * 6 + 5, none⟩ = some (.slice xB xm xd) ∧ W.cell? ⟨b, off + k * 6, none⟩ = some (.int .u32 (yo : Int)) ∧ W.cell? ⟨b, off + k * 6 + 1, none⟩ = some (.int .i64 ys) ∧ W.cell? ⟨b, off + k * 6 + 2, none⟩ = some (.bool yu) ∧ W.cell? ⟨b, off + k * 6 + 3, none⟩ = some (.slice yA yn yc) ∧ W.cell? ⟨b, off + k * 6 + 4, none⟩ = some (.int .i64 yq) ∧ W.cell? ⟨b, off + k * 6 + 5, none⟩ = some (.slice yB ym yd)) (by kernel_rfl) (HSW.out wr Q.out) (fun hH0 => ?_)
                  refine any_take 0 70 ?vn2x0 rfl rfl (by kernel_rfl) (by kernel_rfl) (by kernel_rfl) (fun _ _ _ h => h) (by rfl) ?hyn2x0 hH0 ?restn2x0
                  case hyn2x0 => ((intro W hSw); obtain ⟨s0, s1, s2, s3, s4, s5, s6, s7, s8, s9, s10, s11, s12⟩ := hSw; go_simp; (try with_reducible rfl))
                  try simp only [Act.put, List.setIfInBounds_toArray, List.set_cons_zero, List.set_cons_succ]
                  refine any_take 1 71 ?vn2x1 rfl rfl (by kernel_rfl) (by kernel_rfl) (by kernel_rfl) (fun _ _ _ h => h) (by rfl) ?hyn2x1 hH0 ?restn2x1
                  case hyn2x1 => ((intro W hSw); obtain ⟨s0, s1, s2, s3, s4, s5, s6, s7, s8, s9, s10, s11, s12⟩ := hSw; go_simp; (try with_reducible rfl))
                  try simp only [Act.put, List.setIfInBounds_toArray, List.set_cons_zero, List.set_cons_succ]
                  refine any_take 2 72 ?vn2x2 rfl rfl (by kernel_rfl) (by kernel_rfl) (by kernel_rfl) (fun _ _ _ h => h) (by rfl) ?hyn2x2 hH0 ?restn2x2
                  case hyn2x2 => ((intro W hSw); obtain ⟨s0, s1, s2, s3, s4, s5, s6, s7, s8, s9, s10, s11, s12⟩ := hSw; go_simp; (try with_reducible rfl))
                  try simp only [Act.put, List.setIfInBounds_toArray, List.set_cons_zero, List.set_cons_succ]
                  refine any_take 3 73 ?vn2x3 rfl rfl (by kernel_rfl) (by kernel_rfl) (by kernel_rfl) (fun _ _ _ h => h) (by rfl) ?hyn2x3 hH0 ?restn2x3
                  case hyn2x3 => ((intro W hSw); obtain ⟨s0, s1, s2, s3, s4, s5, s6, s7, s8, s9, s10, s11, s12⟩ := hSw; go_simp; (try with_reducible rfl))
                  try simp only [Act.put, List.setIfInBounds_toArray, List.set_cons_zero, List.set_cons_succ]
                  refine any_take 4 74 ?vn2x4 rfl rfl (by kernel_rfl) (by kernel_rfl) (by kernel_rfl) (fun _ _ _ h => h) (by rfl) ?hyn2x4 hH0 ?restn2x4
                  case hyn2x4 => ((intro W hSw); obtain ⟨s0, s1, s2, s3, s4, s5, s6, s7, s8, s9, s10, s11, s12⟩ := hSw; go_simp; (try with_reducible rfl))
                  try simp only [Act.put, List.setIfInBounds_toArray, List.set_cons_zero, List.set_cons_succ]
                  refine any_take 5 75 ?vn2x5 rfl rfl (by kernel_rfl) (by kernel_rfl) (by kernel_rfl) (fun _ _ _ h => h) (by rfl) ?hyn2x5 hH0 ?restn2x5
                  case hyn2x5 => ((intro W hSw); obtain ⟨s0, s1, s2, s3, s4, s5, s6, s7, s8, s9, s10, s11, s12⟩ := hSw; go_simp; (try with_reducible rfl))
                  try simp only [Act.put, List.setIfInBounds_toArray, List.set_cons_zero, List.set_cons_succ]
                  refine any_take 6 76 ?vn2x6 rfl rfl (by kernel_rfl) (by kernel_rfl) (by kernel_rfl) (fun _ _ _ h => h) (by rfl) ?hyn2x6 hH0 ?restn2x6
                  case hyn2x6 => ((intro W hSw); obtain ⟨s0, s1, s2, s3, s4, s5, s6, s7, s8, s9, s10, s11, s12⟩ := hSw; go_simp; (try with_reducible rfl))
                  try simp only [Act.put, List.setIfInBounds_toArray, List.set_cons_zero, List.set_cons_succ]
                  refine any_take 7 77 ?vn2x7 rfl rfl (by kernel_rfl) (by kernel_rfl) (by kernel_rfl) (fun _ _ _ h => h) (by rfl) ?hyn2x7 hH0 ?restn2x7
                  case hyn2x7 => ((intro W hSw); obtain ⟨s0, s1, s2, s3, s4, s5, s6, s7, s8, s9, s10, s11, s12⟩ := hSw; go_simp; (try with_reducible rfl))
                  try simp only [Act.put, List.setIfInBounds_toArray, List.set_cons_zero, List.set_cons_succ]
                  refine any_take 8 78 ?vn2x8 rfl rfl (by kernel_rfl) (by kernel_rfl) (by kernel_rfl) (fun _ _ _ h => h) (by rfl) ?hyn2x8 hH0 ?restn2x8
                  case hyn2x8 => ((intro W hSw); obtain ⟨s0, s1, s2, s3, s4, s5, s6, s7, s8, s9, s10, s11, s12⟩ := hSw; go_simp; (try with_reducible rfl))
                  try simp only [Act.put, List.setIfInBounds_toArray, List.set_cons_zero, List.set_cons_succ]
                  refine any_take 9 79 ?vn2x9 rfl rfl (by kernel_rfl) (by kernel_rfl) (by kernel_rfl) (fun _ _ _ h => h) (by rfl) ?hyn2x9 hH0 ?restn2x9
                  case hyn2x9 => ((intro W hSw); obtain ⟨s0, s1, s2, s3, s4, s5, s6, s7, s8, s9, s10, s11, s12⟩ := hSw; go_simp; (try with_reducible rfl))
                  try simp only [Act.put, List.setIfInBounds_toArray, List.set_cons_zero, List.set_cons_succ]
                  refine any_take 10 80 ?vn2x10 rfl rfl (by kernel_rfl) (by kernel_rfl) (by kernel_rfl) (fun _ _ _ h => h) (by rfl) ?hyn2x10 hH0 ?restn2x10
                  case hyn2x10 => ((intro W hSw); obtain ⟨s0, s1, s2, s3, s4, s5, s6, s7, s8, s9, s10, s11, s12⟩ := hSw; go_simp; (try with_reducible rfl))
                  try simp only [Act.put, List.setIfInBounds_toArray, List.set_cons_zero, List.set_cons_succ]
                  refine any_take 11 81 ?vn2x11 rfl rfl (by kernel_rfl) (by kernel_rfl) (by kernel_rfl) (fun _ _ _ h => h) (by rfl) ?hyn2x11 hH0 ?restn2x11
                  case hyn2x11 => ((intro W hSw); obtain ⟨s0, s1, s2, s3, s4, s5, s6, s7, s8, s9, s10, s11, s12⟩ := hSw; go_simp; (try with_reducible rfl))
                  try simp only [Act.put, List.setIfInBounds_toArray, List.set_cons_zero, List.set_cons_succ]
                  refine any_take 12 82 ?vn2x12 rfl rfl (by kernel_rfl) (by kernel_rfl) (by kernel_rfl) (fun _ _ _ h => h) (by rfl) ?hyn2x12 hH0 ?restn2x12
                  case hyn2x12 => ((intro W hSw); obtain ⟨s0, s1, s2, s3, s4, s5, s6, s7, s8, s9, s10, s11, s12⟩ := hSw; go_simp; (try with_reducible rfl))
                  try simp only [Act.put, List.setIfInBounds_toArray, List.set_cons_zero, List.set_cons_succ]
                  refine any_take 13 83 ?vn2x13 rfl rfl (by kernel_rfl) (by kernel_rfl) (by kernel_rfl) (fun _ _ _ h => h) (by rfl) ?hyn2x13 hH0 ?restn2x13
                  case hyn2x13 => ((intro W hSw); obtain ⟨s0, s1, s2, s3, s4, s5, s6, s7, s8, s9, s10, s11, s12⟩ := hSw; go_simp; (try with_reducible rfl))
                  try simp only [Act.put, List.setIfInBounds_toArray, List.set_cons_zero, List.set_cons_succ]
                  refine wpAnyH_ready (rs := [14]) (by kernel_rfl) (by simp) ?_
                  refine AllReadyH.cons rfl (fun K hK => ?_) AllReadyH.nil
                  go_simp
                  go_at_call 30
                  with_reducible refine (C30.out _).mono ?_
                  rintro x wq ⟨rfl, hb⟩
                  have Qm := Lib.hid (Q.out.drew.trans (hb.mono Q.out.size))
                  clear hb
                  refine hK.out _ _ ((HSW.out wq Qm.out)) (fun hH1 => ?_)
                  clear hK K
                  try simp only [Act.put, List.setIfInBounds_toArray, List.set_cons_zero, List.set_cons_succ]
                  clear hH0
                  refine any_take 15 85 ?vn3x15 rfl rfl (by kernel_rfl) (by kernel_rfl) (by kernel_rfl) (fun _ _ _ h => h) (by rfl) ?hyn3x15 hH1 ?restn3x15
                  case hyn3x15 => ((intro W hSw); obtain ⟨s0, s1, s2, s3, s4, s5, s6, s7, s8, s9, s10, s11, s12⟩ := hSw; go_simp; (try with_reducible rfl))
                  try simp only [Act.put, List.setIfInBounds_toArray, List.set_cons_zero, List.set_cons_succ]
                  refine any_take 16 86 ?vn3x16 rfl rfl (by kernel_rfl) (by kernel_rfl) (by kernel_rfl) (fun _ _ _ h => h) (by rfl) ?hyn3x16 hH1 ?restn3x16
                  case hyn3x16 => ((intro W hSw); obtain ⟨s0, s1, s2, s3, s4, s5, s6, s7, s8, s9, s10, s11, s12⟩ := hSw; go_simp; (try with_reducible rfl))
                  try simp only [Act.put, List.setIfInBounds_toArray, List.set_cons_zero, List.set_cons_succ]
                  refine any_take 17 87 ?vn3x17 rfl rfl (by kernel_rfl) (by kernel_rfl) (by kernel_rfl) (fun _ _ _ h => h) (by rfl) ?hyn3x17 hH1 ?restn3x17
                  case hyn3x17 => ((intro W hSw); obtain ⟨s0, s1, s2, s3, s4, s5, s6, s7, s8, s9, s10, s11, s12⟩ := hSw; go_simp; (try with_reducible rfl))
                  try simp only [Act.put, List.setIfInBounds_toArray, List.set_cons_zero, List.set_cons_succ]
                  refine any_take 18 88 ?vn3x18 rfl rfl (by kernel_rfl) (by kernel_rfl) (by kernel_rfl) (fun _ _ _ h => h) (by rfl) ?hyn3x18 hH1 ?restn3x18
                  case hyn3x18 => ((intro W hSw); obtain ⟨s0, s1, s2, s3, s4, s5, s6, s7, s8, s9, s10, s11, s12⟩ := hSw; go_simp; (try with_reducible rfl))
                  try simp only [Act.put, List.setIfInBounds_toArray, List.set_cons_zero, List.set_cons_succ]
                  refine any_take 19 89 ?vn3x19 rfl rfl (by kernel_rfl) (by kernel_rfl) (by kernel_rfl) (fun _ _ _ h => h) (by rfl) ?hyn3x19 hH1 ?restn3x19
                  case hyn3x19 => ((intro W hSw); obtain ⟨s0, s1, s2, s3, s4, s5, s6, s7, s8, s9, s10, s11, s12⟩ := hSw; go_simp; (try with_reducible rfl))
                  try simp only [Act.put, List.setIfInBounds_toArray, List.set_cons_zero, List.set_cons_succ]
                  refine any_take 20 90 ?vn3x20 rfl rfl (by kernel_rfl) (by kernel_rfl) (by kernel_rfl) (fun _ _ _ h => h) (by rfl) ?hyn3x20 hH1 ?restn3x20
                  case hyn3x20 => ((intro W hSw); obtain ⟨s0, s1, s2, s3, s4, s5, s6, s7, s8, s9, s10, s11, s12⟩ := hSw; go_simp; (try with_reducible rfl))
                  try simp only [Act.put, List.setIfInBounds_toArray, List.set_cons_zero, List.set_cons_succ]
                  refine any_take 21 91 ?vn3x21 rfl rfl (by kernel_rfl) (by kernel_rfl) (by kernel_rfl) (fun _ _ _ h => h) (by rfl) ?hyn3x21 hH1 ?restn3x21
                  case hyn3x21 => ((intro W hSw); obtain ⟨s0, s1, s2, s3, s4, s5, s6, s7, s8, s9, s10, s11, s12⟩ := hSw; go_simp; (try with_reducible rfl))
                  try simp only [Act.put, List.setIfInBounds_toArray, List.set_cons_zero, List.set_cons_succ]
                  refine any_take 22 92 ?vn3x22 rfl rfl (by kernel_rfl) (by kernel_rfl) (by kernel_rfl) (fun _ _ _ h => h) (by rfl) ?hyn3x22 hH1 ?restn3x22
                  case hyn3x22 => ((intro W hSw); obtain ⟨s0, s1, s2, s3, s4, s5, s6, s7, s8, s9, s10, s11, s12⟩ := hSw; go_simp; (try with_reducible rfl))
                  try simp only [Act.put, List.setIfInBounds_toArray, List.set_cons_zero, List.set_cons_succ]
                  refine any_take 23 93 ?vn3x23 rfl rfl (by kernel_rfl) (by kernel_rfl) (by kernel_rfl) (fun _ _ _ h => h) (by rfl) ?hyn3x23 hH1 ?restn3x23
                  case hyn3x23 => ((intro W hSw); obtain ⟨s0, s1, s2, s3, s4, s5, s6, s7, s8, s9, s10, s11, s12⟩ := hSw; go_simp; (try with_reducible rfl))
                  try simp only [Act.put, List.setIfInBounds_toArray, List.set_cons_zero, List.set_cons_succ]
                  refine any_take 24 94 ?vn3x24 rfl rfl (by kernel_rfl) (by kernel_rfl) (by kernel_rfl) (fun _ _ _ h => h) (by rfl) ?hyn3x24 hH1 ?restn3x24
                  case hyn3x24 => ((intro W hSw); obtain ⟨s0, s1, s2, s3, s4, s5, s6, s7, s8, s9, s10, s11, s12⟩ := hSw; go_simp; (try with_reducible rfl))
                  try simp only [Act.put, List.setIfInBounds_toArray, List.set_cons_zero, List.set_cons_succ]
                  refine any_take 25 95 ?vn3x25 rfl rfl (by kernel_rfl) (by kernel_rfl) (by kernel_rfl) (fun _ _ _ h => h) (by rfl) ?hyn3x25 hH1 ?restn3x25
                  case hyn3x25 => ((intro W hSw); obtain ⟨s0, s1, s2, s3, s4, s5, s6, s7, s8, s9, s10, s11, s12⟩ := hSw; go_simp; (try with_reducible rfl))
                  try simp only [Act.put, List.setIfInBounds_toArray, List.set_cons_zero, List.set_cons_succ]
                  refine any_take 26 96 ?vn3x26 rfl rfl (by kernel_rfl) (by kernel_rfl) (by kernel_rfl) (fun _ _ _ h => h) (by rfl) ?hyn3x26 hH1 ?restn3x26
                  case hyn3x26 => ((intro W hSw); obtain ⟨s0, s1, s2, s3, s4, s5, s6, s7, s8, s9, s10, s11, s12⟩ := hSw; go_simp; (try with_reducible rfl))
                  try simp only [Act.put, List.setIfInBounds_toArray, List.set_cons_zero, List.set_cons_succ]
                  refine any_take 27 97 ?vn3x27 rfl rfl (by kernel_rfl) (by kernel_rfl) (by kernel_rfl) (fun _ _ _ h => h) (by rfl) ?hyn3x27 hH1 ?restn3x27
                  case hyn3x27 => ((intro W hSw); obtain ⟨s0, s1, s2, s3, s4, s5, s6, s7, s8, s9, s10, s11, s12⟩ := hSw; go_simp; (try with_reducible rfl))
                  try simp only [Act.put, List.setIfInBounds_toArray, List.set_cons_zero, List.set_cons_succ]
                  refine any_take 28 98 ?vn3x28 rfl rfl (by kernel_rfl) (by kernel_rfl) (by kernel_rfl) (fun _ _ _ h => h) (by rfl) ?hyn3x28 hH1 ?restn3x28
                  case hyn3x28 => ((intro W hSw); obtain ⟨s0, s1, s2, s3, s4, s5, s6, s7, s8, s9, s10, s11, s12⟩ := hSw; go_simp; (try with_reducible rfl))
                  try simp only [Act.put, List.setIfInBounds_toArray, List.set_cons_zero, List.set_cons_succ]
                  refine any_take 29 99 ?vn3x29 rfl rfl (by kernel_rfl) (by kernel_rfl) (by kernel_rfl) (fun _ _ _ h => h) (by rfl) ?hyn3x29 hH1 ?restn3x29
                  case hyn3x29 => ((intro W hSw); obtain ⟨s0, s1, s2, s3, s4, s5, s6, s7, s8, s9, s10, s11, s12⟩ := hSw; go_simp; (try with_reducible rfl))
                  try simp only [Act.put, List.setIfInBounds_toArray, List.set_cons_zero, List.set_cons_succ]
                  refine wpAnyH_ready (rs := [30]) (by kernel_rfl) (by simp) ?_
                  refine AllReadyH.cons rfl (fun K hK => ?_) AllReadyH.nil
                  go_simp
                  go_at_call 20
                  with_reducible refine (CSK.out _ Qm.out).mono ?_
                  rintro x wp ⟨rfl, hb⟩
                  have Qn := Lib.hid (Qm.out.trans (hb.mono Qm.out.size))
                  clear hb
                  refine hK.out _ _ ((HSW.out wp Qn.out)) (fun hH2 => ?_)
                  clear hK K
                  try simp only [Act.put, List.setIfInBounds_toArray, List.set_cons_zero, List.set_cons_succ]
                  clear hH1
                  refine any_take 31 101 ?vn4x31 rfl rfl (by kernel_rfl) (by kernel_rfl) (by kernel_rfl) (fun _ _ _ h => h) (by rfl) ?hyn4x31 hH2 ?restn4x31
                  case hyn4x31 => ((intro W hSw); obtain ⟨s0, s1, s2, s3, s4, s5, s6, s7, s8, s9, s10, s11, s12⟩ := hSw; go_simp; (try with_reducible rfl))
                  try simp only [Act.put, List.setIfInBounds_toArray, List.set_cons_zero, List.set_cons_succ]
                  refine any_take 32 102 ?vn4x32 rfl rfl (by kernel_rfl) (by kernel_rfl) (by kernel_rfl) (fun _ _ _ h => h) (by rfl) ?hyn4x32 hH2 ?restn4x32
                  case hyn4x32 => ((intro W hSw); obtain ⟨s0, s1, s2, s3, s4, s5, s6, s7, s8, s9, s10, s11, s12⟩ := hSw; go_simp; (try with_reducible rfl))
                  try simp only [Act.put, List.setIfInBounds_toArray, List.set_cons_zero, List.set_cons_succ]
                  clear hH2
                  refine wpAnyH_done (by kernel_rfl) ?_ _
                  refine NoPanic.normal ?_
                  go_wp2
                  go_roundw
                  case rel => exact ⟨k + 1, by omega, by go_num, Qn.out⟩
                  case measure => simp [intOf]; omega
                · have C30 := Lib.hid (fun W => same30 xo xs xu xA xn xc xq xB xm xd yo ys yu yA yn yc yq yB ym yd W false (by symm; exact decide_eq_false hsame))
                  clear hsame
                  refine wp_region_noPanic ?_
                  refine wp_region_held_drew (S := fun W => W.cell? ⟨gs, 3, none⟩ = some (.slice (some ⟨b, off, none⟩) nt tc) ∧ W.cell? ⟨b, off + j * 6, none⟩ = some (.int .u32 (xo : Int)) ∧ W.cell? ⟨b, off + j * 6 + 1, none⟩ = some (.int .i64 xs) ∧ W.cell? ⟨b, off + j * 6 + 2, none⟩ = some (.bool xu) ∧ W.cell? ⟨b, off + j * 6 + 3, none⟩ = some (.slice xA xn xc) ∧ W.cell? ⟨b, off + j * 6 + 4, none⟩ = some (.int .i64 xq) ∧ W.cell? ⟨b, off + j * 6 + 5, none⟩ = some (.slice xB xm xd) ∧ W.cell? ⟨b, off + k * 6, none⟩ = some (.int .u32 (yo : Int)) ∧ W.cell? ⟨b, off + k * 6 + 1, none⟩ = some (.int .i64 ys) ∧ W.cell? ⟨b, off + k * 6 + 2, none⟩ = some (.bool yu) ∧ W.cell? ⟨b, off + k * 6 + 3, none⟩ = some (.slice yA yn yc) ∧ W.cell? ⟨b, off + k * 6 + 4, none⟩ = some (.int .i64 yq) ∧ W.cell? ⟨b, off + k * 6 + 5, none⟩ = some (.slice yB ym yd)) (by kernel_rfl) (HSW.out wr Q.out) (fun hH0 => ?_)
                  refine any_take 0 70 ?vn5x0 rfl rfl (by kernel_rfl) (by kernel_rfl) (by kernel_rfl) (fun _ _ _ h => h) (by rfl) ?hyn5x0 hH0 ?restn5x0
                  case hyn5x0 => ((intro W hSw); obtain ⟨s0, s1, s2, s3, s4, s5, s6, s7, s8, s9, s10, s11, s12⟩ := hSw; go_simp; (try with_reducible rfl))
                  try simp only [Act.put, List.setIfInBounds_toArray, List.set_cons_zero, List.set_cons_succ]
                  refine any_take 1 71 ?vn5x1 rfl rfl (by kernel_rfl) (by kernel_rfl) (by kernel_rfl) (fun _ _ _ h => h) (by rfl) ?hyn5x1 hH0 ?restn5x1
                  case hyn5x1 => ((intro W hSw); obtain ⟨s0, s1, s2, s3, s4, s5, s6, s7, s8, s9, s10, s11, s12⟩ := hSw; go_simp; (try with_reducible rfl))
                  try simp only [Act.put, List.setIfInBounds_toArray, List.set_cons_zero, List.set_cons_succ]
                  refine any_take 2 72 ?vn5x2 rfl rfl (by kernel_rfl) (by kernel_rfl) (by kernel_rfl) (fun _ _ _ h => h) (by rfl) ?hyn5x2 hH0 ?restn5x2
                  case hyn5x2 => ((intro W hSw); obtain ⟨s0, s1, s2, s3, s4, s5, s6, s7, s8, s9, s10, s11, s12⟩ := hSw; go_simp; (try with_reducible rfl))
                  try simp only [Act.put, List.setIfInBounds_toArray, List.set_cons_zero, List.set_cons_succ]
                  refine any_take 3 73 ?vn5x3 rfl rfl (by kernel_rfl) (by kernel_rfl) (by kernel_rfl) (fun _ _ _ h => h) (by rfl) ?hyn5x3 hH0 ?restn5x3
                  case hyn5x3 => ((intro W hSw); obtain ⟨s0, s1, s2, s3, s4, s5, s6, s7, s8, s9, s10, s11, s12⟩ := hSw; go_simp; (try with_reducible rfl))
                  try simp only [Act.put, List.setIfInBounds_toArray, List.set_cons_zero, List.set_cons_succ]
                  refine any_take 4 74 ?vn5x4 rfl rfl (by kernel_rfl) (by kernel_rfl) (by kernel_rfl) (fun _ _ _ h => h) (by rfl) ?hyn5x4 hH0 ?restn5x4
                  case hyn5x4 => ((intro W hSw); obtain ⟨s0, s1, s2, s3, s4, s5, s6, s7, s8, s9, s10, s11, s12⟩ := hSw; go_simp; (try with_reducible rfl))
                  try simp only [Act.put, List.setIfInBounds_toArray, List.set_cons_zero, List.set_cons_succ]
                  refine any_take 5 75 ?vn5x5 rfl rfl (by kernel_rfl) (by kernel_rfl) (by kernel_rfl) (fun _ _ _ h => h) (by rfl) ?hyn5x5 hH0 ?restn5x5
                  case hyn5x5 => ((intro W hSw); obtain ⟨s0, s1, s2, s3, s4, s5, s6, s7, s8, s9, s10, s11, s12⟩ := hSw; go_simp; (try with_reducible rfl))
                  try simp only [Act.put, List.setIfInBounds_toArray, List.set_cons_zero, List.set_cons_succ]
                  refine any_take 6 76 ?vn5x6 rfl rfl (by kernel_rfl) (by kernel_rfl) (by kernel_rfl) (fun _ _ _ h => h) (by rfl) ?hyn5x6 hH0 ?restn5x6
                  case hyn5x6 => ((intro W hSw); obtain ⟨s0, s1, s2, s3, s4, s5, s6, s7, s8, s9, s10, s11, s12⟩ := hSw; go_simp; (try with_reducible rfl))
                  try simp only [Act.put, List.setIfInBounds_toArray, List.set_cons_zero, List.set_cons_succ]
                  refine any_take 7 77 ?vn5x7 rfl rfl (by kernel_rfl) (by kernel_rfl) (by kernel_rfl) (fun _ _ _ h => h) (by rfl) ?hyn5x7 hH0 ?restn5x7
                  case hyn5x7 => ((intro W hSw); obtain ⟨s0, s1, s2, s3, s4, s5, s6, s7, s8, s9, s10, s11, s12⟩ := hSw; go_simp; (try with_reducible rfl))
                  try simp only [Act.put, List.setIfInBounds_toArray, List.set_cons_zero, List.set_cons_succ]
                  refine any_take 8 78 ?vn5x8 rfl rfl (by kernel_rfl) (by kernel_rfl) (by kernel_rfl) (fun _ _ _ h => h) (by rfl) ?hyn5x8 hH0 ?restn5x8
                  case hyn5x8 => ((intro W hSw); obtain ⟨s0, s1, s2, s3, s4, s5, s6, s7, s8, s9, s10, s11, s12⟩ := hSw; go_simp; (try with_reducible rfl))
                  try simp only [Act.put, List.setIfInBounds_toArray, List.set_cons_zero, List.set_cons_succ]
                  refine any_take 9 79 ?vn5x9 rfl rfl (by kernel_rfl) (by kernel_rfl) (by kernel_rfl) (fun _ _ _ h => h) (by rfl) ?hyn5x9 hH0 ?restn5x9
                  case hyn5x9 => ((intro W hSw); obtain ⟨s0, s1, s2, s3, s4, s5, s6, s7, s8, s9, s10, s11, s12⟩ := hSw; go_simp; (try with_reducible rfl))
                  try simp only [Act.put, List.setIfInBounds_toArray, List.set_cons_zero, List.set_cons_succ]
                  refine any_take 10 80 ?vn5x10 rfl rfl (by kernel_rfl) (by kernel_rfl) (by kernel_rfl) (fun _ _ _ h => h) (by rfl) ?hyn5x10 hH0 ?restn5x10
                  case hyn5x10 => ((intro W hSw); obtain ⟨s0, s1, s2, s3, s4, s5, s6, s7, s8, s9, s10, s11, s12⟩ := hSw; go_simp; (try with_reducible rfl))
                  try simp only [Act.put, List.setIfInBounds_toArray, List.set_cons_zero, List.set_cons_succ]
                  refine any_take 11 81 ?vn5x11 rfl rfl (by kernel_rfl) (by kernel_rfl) (by kernel_rfl) (fun _ _ _ h => h) (by rfl) ?hyn5x11 hH0 ?restn5x11
                  case hyn5x11 => ((intro W hSw); obtain ⟨s0, s1, s2, s3, s4, s5, s6, s7, s8, s9, s10, s11, s12⟩ := hSw; go_simp; (try with_reducible rfl))
                  try simp only [Act.put, List.setIfInBounds_toArray, List.set_cons_zero, List.set_cons_succ]
                  refine any_take 12 82 ?vn5x12 rfl rfl (by kernel_rfl) (by kernel_rfl) (by kernel_rfl) (fun _ _ _ h => h) (by rfl) ?hyn5x12 hH0 ?restn5x12
                  case hyn5x12 => ((intro W hSw); obtain ⟨s0, s1, s2, s3, s4, s5, s6, s7, s8, s9, s10, s11, s12⟩ := hSw; go_simp; (try with_reducible rfl))
                  try simp only [Act.put, List.setIfInBounds_toArray, List.set_cons_zero, List.set_cons_succ]
                  refine any_take 13 83 ?vn5x13 rfl rfl (by kernel_rfl) (by kernel_rfl) (by kernel_rfl) (fun _ _ _ h => h) (by rfl) ?hyn5x13 hH0 ?restn5x13
                  case hyn5x13 => ((intro W hSw); obtain ⟨s0, s1, s2, s3, s4, s5, s6, s7, s8, s9, s10, s11, s12⟩ := hSw; go_simp; (try with_reducible rfl))
                  try simp only [Act.put, List.setIfInBounds_toArray, List.set_cons_zero, List.set_cons_succ]
                  refine wpAnyH_ready (rs := [14]) (by kernel_rfl) (by simp) ?_
                  refine AllReadyH.cons rfl (fun K hK => ?_) AllReadyH.nil
                  go_simp
                  go_at_call 30
                  with_reducible refine (C30.out _).mono ?_
                  rintro x wq ⟨rfl, hb⟩
                  have Qm := Lib.hid (Q.out.drew.trans (hb.mono Q.out.size))
                  clear hb
                  refine hK.out _ _ ((HSW.out wq Qm.out)) (fun hH1 => ?_)
                  clear hK K
                  try simp only [Act.put, List.setIfInBounds_toArray, List.set_cons_zero, List.set_cons_succ]
                  clear hH0
                  refine any_take 15 85 ?vn6x15 rfl rfl (by kernel_rfl) (by kernel_rfl) (by kernel_rfl) (fun _ _ _ h => h) (by rfl) ?hyn6x15 hH1 ?restn6x15
                  case hyn6x15 => ((intro W hSw); obtain ⟨s0, s1, s2, s3, s4, s5, s6, s7, s8, s9, s10, s11, s12⟩ := hSw; go_simp; (try with_reducible rfl))
                  try simp only [Act.put, List.setIfInBounds_toArray, List.set_cons_zero, List.set_cons_succ]
                  refine any_skip 16 86 rfl rfl (by kernel_rfl) (by kernel_rfl) (by kernel_rfl) (fun _ _ _ h => h) (by rfl) hH1 ?_
                  try simp only [Act.put, List.setIfInBounds_toArray, List.set_cons_zero, List.set_cons_succ]
                  refine any_skip 17 87 rfl rfl (by kernel_rfl) (by kernel_rfl) (by kernel_rfl) (fun _ _ _ h => h) (by rfl) hH1 ?_
                  try simp only [Act.put, List.setIfInBounds_toArray, List.set_cons_zero, List.set_cons_succ]
                  refine any_skip 18 88 rfl rfl (by kernel_rfl) (by kernel_rfl) (by kernel_rfl) (fun _ _ _ h => h) (by rfl) hH1 ?_
                  try simp only [Act.put, List.setIfInBounds_toArray, List.set_cons_zero, List.set_cons_succ]
                  refine any_skip 19 89 rfl rfl (by kernel_rfl) (by kernel_rfl) (by kernel_rfl) (fun _ _ _ h => h) (by rfl) hH1 ?_
                  try simp only [Act.put, List.setIfInBounds_toArray, List.set_cons_zero, List.set_cons_succ]
                  refine any_skip 20 90 rfl rfl (by kernel_rfl) (by kernel_rfl) (by kernel_rfl) (fun _ _ _ h => h) (by rfl) hH1 ?_
                  try simp only [Act.put, List.setIfInBounds_toArray, List.set_cons_zero, List.set_cons_succ]
                  refine any_skip 21 91 rfl rfl (by kernel_rfl) (by kernel_rfl) (by kernel_rfl) (fun _ _ _ h => h) (by rfl) hH1 ?_
                  try simp only [Act.put, List.setIfInBounds_toArray, List.set_cons_zero, List.set_cons_succ]
                  refine any_skip 22 92 rfl rfl (by kernel_rfl) (by kernel_rfl) (by kernel_rfl) (fun _ _ _ h => h) (by rfl) hH1 ?_
                  try simp only [Act.put, List.setIfInBounds_toArray, List.set_cons_zero, List.set_cons_succ]
                  refine any_skip 23 93 rfl rfl (by kernel_rfl) (by kernel_rfl) (by kernel_rfl) (fun _ _ _ h => h) (by rfl) hH1 ?_
                  try simp only [Act.put, List.setIfInBounds_toArray, List.set_cons_zero, List.set_cons_succ]
                  refine any_skip 24 94 rfl rfl (by kernel_rfl) (by kernel_rfl) (by kernel_rfl) (fun _ _ _ h => h) (by rfl) hH1 ?_
                  try simp only [Act.put, List.setIfInBounds_toArray, List.set_cons_zero, List.set_cons_succ]
                  refine any_skip 25 95 rfl rfl (by kernel_rfl) (by kernel_rfl) (by kernel_rfl) (fun _ _ _ h => h) (by rfl) hH1 ?_
                  try simp only [Act.put, List.setIfInBounds_toArray, List.set_cons_zero, List.set_cons_succ]
                  refine any_skip 26 96 rfl rfl (by kernel_rfl) (by kernel_rfl) (by kernel_rfl) (fun _ _ _ h => h) (by rfl) hH1 ?_
                  try simp only [Act.put, List.setIfInBounds_toArray, List.set_cons_zero, List.set_cons_succ]
                  refine any_skip 27 97 rfl rfl (by kernel_rfl) (by kernel_rfl) (by kernel_rfl) (fun _ _ _ h => h) (by rfl) hH1 ?_
                  try simp only [Act.put, List.setIfInBounds_toArray, List.set_cons_zero, List.set_cons_succ]
                  refine any_skip 28 98 rfl rfl (by kernel_rfl) (by kernel_rfl) (by kernel_rfl) (fun _ _ _ h => h) (by rfl) hH1 ?_
                  try simp only [Act.put, List.setIfInBounds_toArray, List.set_cons_zero, List.set_cons_succ]
                  refine any_skip 29 99 rfl rfl (by kernel_rfl) (by kernel_rfl) (by kernel_rfl) (fun _ _ _ h => h) (by rfl) hH1 ?_
                  try simp only [Act.put, List.setIfInBounds_toArray, List.set_cons_zero, List.set_cons_succ]
                  refine any_skip 30 100 rfl rfl (by kernel_rfl) (by kernel_rfl) (by kernel_rfl) (fun _ _ _ h => h) (by rfl) hH1 ?_
                  try simp only [Act.put, List.setIfInBounds_toArray, List.set_cons_zero, List.set_cons_succ]
                  refine any_skip 31 101 rfl rfl (by kernel_rfl) (by kernel_rfl) (by kernel_rfl) (fun _ _ _ h => h) (by rfl) hH1 ?_
                  try simp only [Act.put, List.setIfInBounds_toArray, List.set_cons_zero, List.set_cons_succ]
                  refine any_take 32 102 ?vn6x32 rfl rfl (by kernel_rfl) (by kernel_rfl) (by kernel_rfl) (fun _ _ _ h => h) (by rfl) ?hyn6x32 hH1 ?restn6x32
                  case hyn6x32 => ((intro W hSw); obtain ⟨s0, s1, s2, s3, s4, s5, s6, s7, s8, s9, s10, s11, s12⟩ := hSw; go_simp; (try with_reducible rfl))
                  try simp only [Act.put, List.setIfInBounds_toArray, List.set_cons_zero, List.set_cons_succ]
                  clear hH1
                  have Qn := Qm
                  refine wpAnyH_done (by kernel_rfl) ?_ _
                  refine NoPanic.normal ?_
                  go_wp2
                  go_roundw
                  case rel => exact ⟨k + 1, by omega, by go_num, Qn.out⟩
                  case measure => simp [intOf]; omega
              · have e0 : decide ((k : Int) < (j : Int)) = false := by rw [decide_eq_false_iff_not]; omega
                have e0b : decide (k < j) = false := by rw [decide_eq_false_iff_not]; omega
                go_wp2
                go_roundw
                case rel => exact ⟨j + 1, by omega, by go_num, Q.out⟩
                case measure => simp [intOf]; omega
          · have e0 : decide ((j : Int) < (nt : Int)) = false := by rw [decide_eq_false_iff_not]; omega
            have e0b : decide (j < nt) = false := by rw [decide_eq_false_iff_not]; omega
            have BE := Lib.hid (BB.out.trans (Q.out.mono BB.out.size))
            go_wp2_with fail
            with_reducible refine (CKN.out _).mono ?_
            rintro x v5 ⟨rfl, hb⟩
            have BK := Lib.hid (BE.out.trans (hb.mono BE.out.size))
            clear hb
            go_wp2
            go_ret
            exact ⟨rfl, BK.out⟩

end Go.Proofs.Ytfcfejmammohpaa
