/-
  The contracts of the document's less and Check.
-/
import Derived.Test.YtfcfejmammohpaaChk
namespace Go.Proofs.Ytfcfejmammohpaa
open Go.RowKit
set_option maxRecDepth 100000
set_option linter.unusedVariables false
set_option linter.unusedSimpArgs false

set_option maxHeartbeats 2000000 in
theorem less_any (x y : Kx) (h1 : in64 x.k.s) (h2 : in64 y.k.s) (w : World) :
    Calls Try.prog 48 #[.agg (kc x), .agg (kc y)] w fun e w' => e = .returned (.bool (decide (x.k.k < y.k.k))) ∧ Below w.heap.size w w' := by
  obtain ⟨⟨xo, xs, xu, xa, xc, xr⟩, xK, xD⟩ := x
  obtain ⟨⟨yo, ys, yu, ya, yc, yr⟩, yK, yD⟩ := y
  dsimp only [Kp.k] at *
  have HB := Lib.hid (below2 w (.cells #[.int .u32 (xo : Int), .int .i64 xs, .bool xu, xK, .int .i64 xc, xD] 34) (.cells #[.int .u32 (yo : Int), .int .i64 ys, .bool yu, yK, .int .i64 yc, yD] 34))
  have q1 := b2n_le xu
  have q2 := b2n_le yu
  unfold in64 at h1 h2
  by_cases a : xo = yo
  · subst a
    have z1 : ((xo : Int) != (xo : Int)) = false := by simp
    by_cases b : xs = ys
    · subst b
      have z2 : (xs != xs) = false := by simp
      cases xu
      · cases yu
        · rw [show decide (kn xo xs false < kn xo xs false) = false from by simp]
          clear h1 h2 q1 q2
          go_enter Try.func48, Try.ntmps48
          go_wp2
          go_ret
          exact ⟨rfl, HB.out⟩
        · rw [show decide (kn xo xs false < kn xo xs true) = true from by rw [decide_eq_true_iff]; unfold kn Ent.b2n; simp; omega]
          clear h1 h2 q1 q2
          go_enter Try.func48, Try.ntmps48
          go_wp2
          go_ret
          exact ⟨rfl, HB.out⟩
      · rw [show decide (kn xo xs true < kn xo xs yu) = false from by rw [decide_eq_false_iff_not]; unfold kn; simp only [show Ent.b2n true = 1 from rfl]; omega]
        clear h1 h2 q1 q2
        go_enter Try.func48, Try.ntmps48
        go_wp2
        go_ret
        exact ⟨rfl, HB.out⟩
    · have z2 : (xs != ys) = true := by simpa using b
      rw [show decide (kn xo xs xu < kn xo ys yu) = decide (xs < ys) from by rw [decide_eq_decide]; unfold kn; omega]
      clear h1 h2 q1 q2 b
      go_enter Try.func48, Try.ntmps48
      go_wp2
      go_ret
      exact ⟨rfl, HB.out⟩
  · have z1 : ((xo : Int) != (yo : Int)) = true := by simp; omega
    have z3 : (xo != yo) = true := by simpa using a
    rw [show decide (kn xo xs xu < kn yo ys yu) = decide ((xo : Int) < (yo : Int)) from by rw [decide_eq_decide]; unfold kn; omega]
    clear h1 h2 q1 q2 a
    go_enter Try.func48, Try.ntmps48
    go_wp2
    go_ret
    exact ⟨by first | rfl | exact ret_bool (by simp) | exact ret_bool (by rw [decide_eq_decide]; omega), HB.out⟩

def RckR (w : World) (n : Nat) (T : Nat → Kp) (g : Nat) (cs : Array Value) (i : Value) (wr : World) : Prop :=
  ∃ j : Nat, j ≤ n ∧ i = .int .i64 (j : Int) ∧ upTo T j ∧ Lies wr g 25 cs ∧ Below w.heap.size w wr
set_option maxHeartbeats 16000000 in
theorem rcheck_fence (ep : Nat) (A : Option Addr) (n c : Nat) (T : Nat → Kp) (w : World) (hF : FV w A n c T) :
    Calls Try.prog 23 #[.agg #[.int .u32 (ep : Int), .slice A n c]] w fun e w' => e = .returned (.int .i64 (chkC n T : Nat)) ∧ Below w.heap.size w w' := by
  by_cases hn : 200 < n
  · rw [chkC_bad (okB_big hn)]
    have d1 : decide ((200 : Int) < (n : Int)) = true := by rw [decide_eq_true_iff]; omega
    have d2 : decide (200 < n) = true := by rw [decide_eq_true_iff]; omega
    have HB := Lib.hid (below1 w (.cells #[.int .u32 (ep : Int), .slice A n c] 25))
    clear hF
    go_enter Try.func23, Try.ntmps23
    go_wp2
    go_ret
    exact ⟨rfl, HB.out⟩
  · obtain ⟨_, _, _, X, hK, hX⟩ := hF
    have d1 : decide ((200 : Int) < (n : Int)) = false := by rw [decide_eq_false_iff_not]; omega
    have d2 : decide (200 < n) = false := by rw [decide_eq_false_iff_not]; omega
    have HK := Lib.hid hK
    have HX := Lib.hid hX
    have hn2 : n ≤ 200 := by omega
    clear hK hX hn
    have LB := Lib.hid (Lies.made w 25 #[.int .u32 (ep : Int), .slice A n c])
    have HB := Lib.hid (below1 w (.cells #[.int .u32 (ep : Int), .slice A n c] 25))
    go_enter Try.func23, Try.ntmps23
    go_wp2_with fail
    go_loopw [3] (RckR w n T w.heap.size #[.int .u32 (ep : Int), .slice A n c]) (fun i _ => n - (intOf i).toNat)
    case atStart => exact ⟨0, by omega, rfl, (fun i hi => by omega), LB.out, HB.out⟩
    case round =>
      obtain ⟨j, hj, rfl, hup, hL, hbel⟩ := hrel
      have HUP := Lib.hid hup
      have HL := Lib.hid hL
      have BB := Lib.hid hbel
      clear hup hL hbel
      obtain ⟨k0, k1⟩ := HL.out.cells2
      by_cases hlt : j < n
      · obtain ⟨b, off, rfl, _⟩ := HK.out.1 (by omega)
        have HKW := Lib.hid (HK.out.below BB.out)
        obtain ⟨q0, q1, q2, q3, q4, q5⟩ := HKW.out.at j hlt
        have hi : (j : Int) < (n : Int) := by omega
        have HKT := Lib.hid (HKW.out.2 j hlt)
        obtain ⟨A1, c1, A2, c2, e1, e2⟩ := HKT.out.slices
        have HTJ := Lib.hid (HX.out j hlt)
        have HVK : Hid (vk (X j).k = vk (T j)) := Lib.hid (by rw [HTJ.out])
        have HKE : Hid ((X j).k.k = (T j).k) := Lib.hid (by rw [HTJ.out])
        have LX := Lib.hid (Lies.made wr 34 (kc (X j)))
        have LF := Lib.hid (HL.out.alloc (.cells (kc (X j)) 34))
        have BX := Lib.hid (BB.out.alloc BB.out.size (.cells (kc (X j)) 34))
        obtain ⟨xj, hxj⟩ : ∃ x, X j = x := ⟨_, rfl⟩
        have HXJ := Lib.hid hxj
        rw [hxj] at q0 q1 q2 q3 q4 q5 e1 e2 HVK HKE LX LF BX HKT
        clear hxj
        rw [e1] at q3
        rw [e2] at q5
        have vkI := Lib.hid (vk_iff xj.k)
        have HS := Lib.hid HKT.out.s
        obtain ⟨⟨xo, xs, xu, xa, xc, xr⟩, xK, xD⟩ := xj
        dsimp only at *
        subst e1 e2
        obtain ⟨n1, hn1⟩ : ∃ n1, xa.length = n1 := ⟨_, rfl⟩
        obtain ⟨n2, hn2⟩ : ∃ n2, xr.length = n2 := ⟨_, rfl⟩
        rw [hn1] at q3 LX LF BX vkI
        rw [hn2] at q5 LX LF BX vkI
        rw [hn1, hn2] at HXJ
        by_cases g0 : xo < 1
        · have hv : vk (T j) = false := by rw [← HVK.out]; exact Bool.eq_false_iff.2 (fun h => by have := vkI.out.1 h; omega)
          have HBAD : Hid (okB n T = false) := Lib.hid (okB_bad j hlt (by unfold goodAt; rw [hv]; rfl))
          clear hv
          have d0_0 : decide ((xo : Int) < 1) = true := by rw [decide_eq_true_iff]; omega
          have d0_1 : decide (xo < 1) = true := by rw [decide_eq_true_iff]; omega
          clear g0 HXJ vkI HVK
          go_wp2
          go_ret
          exact ⟨ret_int (by rw [chkC_bad HBAD.out]; rfl), BX.out⟩
        · skip
          by_cases g1 : xs < 0
          · have hv : vk (T j) = false := by rw [← HVK.out]; exact Bool.eq_false_iff.2 (fun h => by have := vkI.out.1 h; omega)
            have HBAD : Hid (okB n T = false) := Lib.hid (okB_bad j hlt (by unfold goodAt; rw [hv]; rfl))
            clear hv
            have d0_0 : decide ((xo : Int) < 1) = false := by rw [decide_eq_false_iff_not]; omega
            have d0_1 : decide (xo < 1) = false := by rw [decide_eq_false_iff_not]; omega
            have d1_0 : decide (xs < 0) = true := by rw [decide_eq_true_iff]; omega
            clear g0 g1 HXJ vkI HVK
            go_wp2
            go_ret
            exact ⟨ret_int (by rw [chkC_bad HBAD.out]; rfl), BX.out⟩
          · skip
            by_cases g2 : 15 < xs
            · have hv : vk (T j) = false := by rw [← HVK.out]; exact Bool.eq_false_iff.2 (fun h => by have := vkI.out.1 h; omega)
              have HBAD : Hid (okB n T = false) := Lib.hid (okB_bad j hlt (by unfold goodAt; rw [hv]; rfl))
              clear hv
              have d0_0 : decide ((xo : Int) < 1) = false := by rw [decide_eq_false_iff_not]; omega
              have d0_1 : decide (xo < 1) = false := by rw [decide_eq_false_iff_not]; omega
              have d1_0 : decide (xs < 0) = false := by rw [decide_eq_false_iff_not]; omega
              have d2_0 : decide (15 < xs) = true := by rw [decide_eq_true_iff]; omega
              clear g0 g1 g2 HXJ vkI HVK
              go_wp2
              go_ret
              exact ⟨ret_int (by rw [chkC_bad HBAD.out]; rfl), BX.out⟩
            · skip
              by_cases g3 : 255 < n1
              · have hv : vk (T j) = false := by rw [← HVK.out]; exact Bool.eq_false_iff.2 (fun h => by have := vkI.out.1 h; omega)
                have HBAD : Hid (okB n T = false) := Lib.hid (okB_bad j hlt (by unfold goodAt; rw [hv]; rfl))
                clear hv
                have d0_0 : decide ((xo : Int) < 1) = false := by rw [decide_eq_false_iff_not]; omega
                have d0_1 : decide (xo < 1) = false := by rw [decide_eq_false_iff_not]; omega
                have d1_0 : decide (xs < 0) = false := by rw [decide_eq_false_iff_not]; omega
                have d2_0 : decide (15 < xs) = false := by rw [decide_eq_false_iff_not]; omega
                have d3_0 : decide ((255 : Int) < (n1 : Int)) = true := by rw [decide_eq_true_iff]; omega
                have d3_1 : decide (255 < n1) = true := by rw [decide_eq_true_iff]; omega
                clear g0 g1 g2 g3 HXJ vkI HVK
                go_wp2
                go_ret
                exact ⟨ret_int (by rw [chkC_bad HBAD.out]; rfl), BX.out⟩
              · skip
                by_cases g4 : 255 < n2
                · have hv : vk (T j) = false := by rw [← HVK.out]; exact Bool.eq_false_iff.2 (fun h => by have := vkI.out.1 h; omega)
                  have HBAD : Hid (okB n T = false) := Lib.hid (okB_bad j hlt (by unfold goodAt; rw [hv]; rfl))
                  clear hv
                  have d0_0 : decide ((xo : Int) < 1) = false := by rw [decide_eq_false_iff_not]; omega
                  have d0_1 : decide (xo < 1) = false := by rw [decide_eq_false_iff_not]; omega
                  have d1_0 : decide (xs < 0) = false := by rw [decide_eq_false_iff_not]; omega
                  have d2_0 : decide (15 < xs) = false := by rw [decide_eq_false_iff_not]; omega
                  have d3_0 : decide ((255 : Int) < (n1 : Int)) = false := by rw [decide_eq_false_iff_not]; omega
                  have d3_1 : decide (255 < n1) = false := by rw [decide_eq_false_iff_not]; omega
                  have d4_0 : decide ((255 : Int) < (n2 : Int)) = true := by rw [decide_eq_true_iff]; omega
                  have d4_1 : decide (255 < n2) = true := by rw [decide_eq_true_iff]; omega
                  clear g0 g1 g2 g3 g4 HXJ vkI HVK
                  go_wp2
                  go_ret
                  exact ⟨ret_int (by rw [chkC_bad HBAD.out]; rfl), BX.out⟩
                · skip
                  by_cases g5 : xc < 1
                  · have hv : vk (T j) = false := by rw [← HVK.out]; exact Bool.eq_false_iff.2 (fun h => by have := vkI.out.1 h; omega)
                    have HBAD : Hid (okB n T = false) := Lib.hid (okB_bad j hlt (by unfold goodAt; rw [hv]; rfl))
                    clear hv
                    have d0_0 : decide ((xo : Int) < 1) = false := by rw [decide_eq_false_iff_not]; omega
                    have d0_1 : decide (xo < 1) = false := by rw [decide_eq_false_iff_not]; omega
                    have d1_0 : decide (xs < 0) = false := by rw [decide_eq_false_iff_not]; omega
                    have d2_0 : decide (15 < xs) = false := by rw [decide_eq_false_iff_not]; omega
                    have d3_0 : decide ((255 : Int) < (n1 : Int)) = false := by rw [decide_eq_false_iff_not]; omega
                    have d3_1 : decide (255 < n1) = false := by rw [decide_eq_false_iff_not]; omega
                    have d4_0 : decide ((255 : Int) < (n2 : Int)) = false := by rw [decide_eq_false_iff_not]; omega
                    have d4_1 : decide (255 < n2) = false := by rw [decide_eq_false_iff_not]; omega
                    have d5_0 : decide (xc < 1) = true := by rw [decide_eq_true_iff]; omega
                    clear g0 g1 g2 g3 g4 g5 HXJ vkI HVK
                    go_wp2
                    go_ret
                    exact ⟨ret_int (by rw [chkC_bad HBAD.out]; rfl), BX.out⟩
                  · skip
                    by_cases g6 : 2 < xc
                    · have hv : vk (T j) = false := by rw [← HVK.out]; exact Bool.eq_false_iff.2 (fun h => by have := vkI.out.1 h; omega)
                      have HBAD : Hid (okB n T = false) := Lib.hid (okB_bad j hlt (by unfold goodAt; rw [hv]; rfl))
                      clear hv
                      have d0_0 : decide ((xo : Int) < 1) = false := by rw [decide_eq_false_iff_not]; omega
                      have d0_1 : decide (xo < 1) = false := by rw [decide_eq_false_iff_not]; omega
                      have d1_0 : decide (xs < 0) = false := by rw [decide_eq_false_iff_not]; omega
                      have d2_0 : decide (15 < xs) = false := by rw [decide_eq_false_iff_not]; omega
                      have d3_0 : decide ((255 : Int) < (n1 : Int)) = false := by rw [decide_eq_false_iff_not]; omega
                      have d3_1 : decide (255 < n1) = false := by rw [decide_eq_false_iff_not]; omega
                      have d4_0 : decide ((255 : Int) < (n2 : Int)) = false := by rw [decide_eq_false_iff_not]; omega
                      have d4_1 : decide (255 < n2) = false := by rw [decide_eq_false_iff_not]; omega
                      have d5_0 : decide (xc < 1) = false := by rw [decide_eq_false_iff_not]; omega
                      have d6_0 : decide (2 < xc) = true := by rw [decide_eq_true_iff]; omega
                      clear g0 g1 g2 g3 g4 g5 g6 HXJ vkI HVK
                      go_wp2
                      go_ret
                      exact ⟨ret_int (by rw [chkC_bad HBAD.out]; rfl), BX.out⟩
                    · skip
                      have HVT : Hid (vk (T j) = true) := Lib.hid (by rw [← HVK.out]; exact vkI.out.2 (by omega))
                      have d0_0 : decide ((xo : Int) < 1) = false := by rw [decide_eq_false_iff_not]; omega
                      have d0_1 : decide (xo < 1) = false := by rw [decide_eq_false_iff_not]; omega
                      have d1_0 : decide (xs < 0) = false := by rw [decide_eq_false_iff_not]; omega
                      have d2_0 : decide (15 < xs) = false := by rw [decide_eq_false_iff_not]; omega
                      have d3_0 : decide ((255 : Int) < (n1 : Int)) = false := by rw [decide_eq_false_iff_not]; omega
                      have d3_1 : decide (255 < n1) = false := by rw [decide_eq_false_iff_not]; omega
                      have d4_0 : decide ((255 : Int) < (n2 : Int)) = false := by rw [decide_eq_false_iff_not]; omega
                      have d4_1 : decide (255 < n2) = false := by rw [decide_eq_false_iff_not]; omega
                      have d5_0 : decide (xc < 1) = false := by rw [decide_eq_false_iff_not]; omega
                      have d6_0 : decide (2 < xc) = false := by rw [decide_eq_false_iff_not]; omega
                      clear g0 g1 g2 g3 g4 g5 g6 vkI HVK
                      by_cases hj0 : j = 0
                      · have dj : decide ((0 : Int) < (j : Int)) = false := by rw [decide_eq_false_iff_not]; omega
                        have dj2 : decide (0 < j) = false := by rw [decide_eq_false_iff_not]; omega
                        have HNEXT : Hid (upTo T (j + 1)) := Lib.hid (fun i hi => by
                          by_cases e : i = j
                          · rw [e]; exact ⟨HVT.out, fun h => by omega⟩
                          · exact HUP.out i (by omega))
                        clear hj0 HXJ
                        go_wp2_with fail
                        refine wp_region_noPanic ?_
                        refine wp_region_held_drew (S := fun W => Lies W w.heap.size 25 #[.int .u32 (ep : Int), .slice (some ⟨b, off, none⟩) n c] ∧ Lies W wr.heap.size 34 #[.int .u32 (xo : Int), .int .i64 xs, .bool xu, .slice A1 n1 c1, .int .i64 xc, .slice A2 n2 c2]) (by kernel_rfl) ⟨LF.out, LX.out⟩ (fun hH0 => ?_)
                        refine any_take 0 56 ?vk1x0 rfl rfl (by kernel_rfl) (by kernel_rfl) (by kernel_rfl) (fun _ _ _ h => h) (by rfl) ?hyk1x0 hH0 ?restk1x0
                        case hyk1x0 => ((intro W hSw); obtain ⟨o0_0, o0_1⟩ := Lies.cells2 hSw.1; obtain ⟨o1_0, o1_1, o1_2, o1_3, o1_4, o1_5⟩ := Lies.cells6 hSw.2; go_simp; (try with_reducible rfl))
                        try simp only [Act.put, List.setIfInBounds_toArray, List.set_cons_zero, List.set_cons_succ]
                        refine any_take 1 57 ?vk1x1 rfl rfl (by kernel_rfl) (by kernel_rfl) (by kernel_rfl) (fun _ _ _ h => h) (by rfl) ?hyk1x1 hH0 ?restk1x1
                        case hyk1x1 => ((intro W hSw); obtain ⟨o0_0, o0_1⟩ := Lies.cells2 hSw.1; obtain ⟨o1_0, o1_1, o1_2, o1_3, o1_4, o1_5⟩ := Lies.cells6 hSw.2; go_simp; (try with_reducible rfl))
                        try simp only [Act.put, List.setIfInBounds_toArray, List.set_cons_zero, List.set_cons_succ]
                        refine any_take 2 58 ?vk1x2 rfl rfl (by kernel_rfl) (by kernel_rfl) (by kernel_rfl) (fun _ _ _ h => h) (by rfl) ?hyk1x2 hH0 ?restk1x2
                        case hyk1x2 => ((intro W hSw); obtain ⟨o0_0, o0_1⟩ := Lies.cells2 hSw.1; obtain ⟨o1_0, o1_1, o1_2, o1_3, o1_4, o1_5⟩ := Lies.cells6 hSw.2; go_simp; (try with_reducible rfl))
                        try simp only [Act.put, List.setIfInBounds_toArray, List.set_cons_zero, List.set_cons_succ]
                        refine any_skip 3 59 rfl rfl (by kernel_rfl) (by kernel_rfl) (by kernel_rfl) (fun _ _ _ h => h) (by rfl) hH0 ?_
                        try simp only [Act.put, List.setIfInBounds_toArray, List.set_cons_zero, List.set_cons_succ]
                        refine any_skip 4 60 rfl rfl (by kernel_rfl) (by kernel_rfl) (by kernel_rfl) (fun _ _ _ h => h) (by rfl) hH0 ?_
                        try simp only [Act.put, List.setIfInBounds_toArray, List.set_cons_zero, List.set_cons_succ]
                        refine any_skip 5 61 rfl rfl (by kernel_rfl) (by kernel_rfl) (by kernel_rfl) (fun _ _ _ h => h) (by rfl) hH0 ?_
                        try simp only [Act.put, List.setIfInBounds_toArray, List.set_cons_zero, List.set_cons_succ]
                        refine any_skip 6 62 rfl rfl (by kernel_rfl) (by kernel_rfl) (by kernel_rfl) (fun _ _ _ h => h) (by rfl) hH0 ?_
                        try simp only [Act.put, List.setIfInBounds_toArray, List.set_cons_zero, List.set_cons_succ]
                        refine any_skip 7 63 rfl rfl (by kernel_rfl) (by kernel_rfl) (by kernel_rfl) (fun _ _ _ h => h) (by rfl) hH0 ?_
                        try simp only [Act.put, List.setIfInBounds_toArray, List.set_cons_zero, List.set_cons_succ]
                        refine any_skip 8 64 rfl rfl (by kernel_rfl) (by kernel_rfl) (by kernel_rfl) (fun _ _ _ h => h) (by rfl) hH0 ?_
                        try simp only [Act.put, List.setIfInBounds_toArray, List.set_cons_zero, List.set_cons_succ]
                        refine any_skip 9 65 rfl rfl (by kernel_rfl) (by kernel_rfl) (by kernel_rfl) (fun _ _ _ h => h) (by rfl) hH0 ?_
                        try simp only [Act.put, List.setIfInBounds_toArray, List.set_cons_zero, List.set_cons_succ]
                        refine any_skip 10 66 rfl rfl (by kernel_rfl) (by kernel_rfl) (by kernel_rfl) (fun _ _ _ h => h) (by rfl) hH0 ?_
                        try simp only [Act.put, List.setIfInBounds_toArray, List.set_cons_zero, List.set_cons_succ]
                        refine any_skip 11 67 rfl rfl (by kernel_rfl) (by kernel_rfl) (by kernel_rfl) (fun _ _ _ h => h) (by rfl) hH0 ?_
                        try simp only [Act.put, List.setIfInBounds_toArray, List.set_cons_zero, List.set_cons_succ]
                        refine any_take 12 68 ?vk1x12 rfl rfl (by kernel_rfl) (by kernel_rfl) (by kernel_rfl) (fun _ _ _ h => h) (by rfl) ?hyk1x12 hH0 ?restk1x12
                        case hyk1x12 => ((intro W hSw); obtain ⟨o0_0, o0_1⟩ := Lies.cells2 hSw.1; obtain ⟨o1_0, o1_1, o1_2, o1_3, o1_4, o1_5⟩ := Lies.cells6 hSw.2; go_simp; (try with_reducible rfl))
                        try simp only [Act.put, List.setIfInBounds_toArray, List.set_cons_zero, List.set_cons_succ]
                        clear hH0
                        refine wpAnyH_done (by kernel_rfl) ?_ _
                        refine NoPanic.normal ?_
                        go_wp2
                        go_roundw
                        case rel => exact ⟨j + 1, by omega, by go_num, HNEXT.out, LF.out, BX.out.drew⟩
                        case measure => simp [intOf]; omega
                      · obtain ⟨j', hj'⟩ : ∃ j', j = j' + 1 := ⟨j - 1, by omega⟩
                        have dj : decide ((0 : Int) < (j : Int)) = true := by rw [decide_eq_true_iff]; omega
                        have dj2 : decide (0 < j) = true := by rw [decide_eq_true_iff]; omega
                        have hjw : IntKind.i64.wrap ((j : Int) - 1) = (j' : Int) := by rw [IntKind.wrap_i64]; omega
                        have hjn' : j' < n := by omega
                        have hji : (j' : Int) < (n : Int) := by omega
                        have HKP := Lib.hid (HKW.out.2 j' hjn')
                        have HTP := Lib.hid (HX.out j' hjn')
                        have HAT := Lib.hid ((HKW.out.below (below1 wr (.cells #[.int .u32 (xo : Int), .int .i64 xs, .bool xu, .slice A1 n1 c1, .int .i64 xc, .slice A2 n2 c2] 34))).at j' hjn')
                        have CL := Lib.hid (fun W => less_any (X j') ⟨⟨xo, xs, xu, xa, xc, xr⟩, .slice A1 xa.length c1, .slice A2 xr.length c2⟩ HKP.out.s HS.out W)
                        have HPE : Hid ((X j').k.k = (T j').k) := Lib.hid (by rw [HTP.out])
                        dsimp only at CL HKE
                        rw [HPE.out, HKE.out] at CL
                        rw [hn1, hn2] at CL
                        have HUPJ : Hid (∀ h : (T j').k < (T j).k, upTo T (j + 1)) := Lib.hid (fun h i hi => by
                          by_cases e : i = j
                          · rw [e]; exact ⟨HVT.out, fun _ => by rw [hj', Nat.add_sub_cancel] at *; exact h⟩
                          · exact HUP.out i (by omega))
                        have HBADJ : Hid (∀ h : ¬ (T j').k < (T j).k, okB n T = false) := Lib.hid (fun h => okB_bad j hlt (by
                          rw [Bool.eq_false_iff]; intro hg
                          have := ((goodAt_iff T j).1 hg).2 (by omega)
                          rw [show j - 1 = j' by omega] at this
                          exact h this))
                        have HATF := Lib.hid (fun W (hb : Below (wr.alloc (.cells #[.int .u32 (xo : Int), .int .i64 xs, .bool xu, .slice A1 n1 c1, .int .i64 xc, .slice A2 n2 c2] 34)).drew.heap.size (wr.alloc (.cells #[.int .u32 (xo : Int), .int .i64 xs, .bool xu, .slice A1 n1 c1, .int .i64 xc, .slice A2 n2 c2] 34)).drew W) => (((HKW.out.below (below1 wr (.cells #[.int .u32 (xo : Int), .int .i64 xs, .bool xu, .slice A1 n1 c1, .int .i64 xc, .slice A2 n2 c2] 34))).drew).below hb).at j' hjn')
                        obtain ⟨xp, hxp⟩ : ∃ x, X j' = x := ⟨_, rfl⟩
                        rw [hxp] at HAT HATF CL
                        clear hxp HXJ hj' hj0 HKP HTP HPE HKW HKT
                        obtain ⟨⟨po, ps, pu, pa, pc, pr⟩, pK, pD⟩ := xp
                        dsimp only at *
                        obtain ⟨r0, r1, r2, r3, r4, r5⟩ := HAT.out
                        generalize hkp : (T j').k = kp at *
                        generalize hkj : (T j).k = kj at *
                        have HKP := Lib.hid hkp
                        have HKJ := Lib.hid hkj
                        clear hkp hkj
                        by_cases hcmp : kp < kj
                        · rw [show decide (kp < kj) = true from decide_eq_true hcmp] at CL
                          have HNEXT := Lib.hid (HUPJ.out hcmp)
                          clear hcmp HUPJ HBADJ
                          obtain ⟨m0, m1⟩ := LF.out.cells2
                          obtain ⟨s0, s1, s2, s3, s4, s5⟩ := LX.out.cells6
                          go_wp2_with fail
                          go_region_held3 (fun W => W.cell? ⟨b, off + j' * 6, none⟩ = some (.int .u32 (po : Int)) ∧ W.cell? ⟨b, off + j' * 6 + 1, none⟩ = some (.int .i64 ps) ∧ W.cell? ⟨b, off + j' * 6 + 2, none⟩ = some (.bool pu) ∧ W.cell? ⟨b, off + j' * 6 + 3, none⟩ = some pK ∧ W.cell? ⟨b, off + j' * 6 + 4, none⟩ = some (.int .i64 pc) ∧ W.cell? ⟨b, off + j' * 6 + 5, none⟩ = some pD ∧ W.cell? ⟨w.heap.size, 1, none⟩ = some (.slice (some ⟨b, off, none⟩) n c) ∧ W.cell? ⟨wr.heap.size, 0, none⟩ = some (.int .u32 (xo : Int)) ∧ W.cell? ⟨wr.heap.size, 1, none⟩ = some (.int .i64 xs) ∧ W.cell? ⟨wr.heap.size, 2, none⟩ = some (.bool xu) ∧ W.cell? ⟨wr.heap.size, 3, none⟩ = some (.slice A1 n1 c1) ∧ W.cell? ⟨wr.heap.size, 4, none⟩ = some (.int .i64 xc) ∧ W.cell? ⟨wr.heap.size, 5, none⟩ = some (.slice A2 n2 c2)) (first | go_keep | (obtain ⟨t0, t1, t2, t3, t4, t5⟩ := HAT2.out; obtain ⟨v0, v1, v2, v3, v4, v5⟩ := LX2.out.cells6; obtain ⟨u0, u1⟩ := LF2.out.cells2; exact ⟨t0, t1, t2, t3, t4, t5, u1, v0, v1, v2, v3, v4, v5⟩))
                            (first | (go_at_call 48; (with_reducible refine (CL.out _).mono ?_); (rintro y w2 ⟨rfl, hb⟩); (have B2 := Lib.hid (BX.out.drew.trans (hb.mono BX.out.size))); (have LX2 := Lib.hid (Lies.below (Lies.drew LX.out) hb (Lies.lt LX.out))); (have LF2 := Lib.hid (Lies.below (Lies.drew LF.out) hb (Lies.lt LF.out))); (have HAT2 := Lib.hid (HATF.out _ hb)); clear hb))
                          go_wp2
                          go_roundw
                          case rel => exact ⟨j + 1, by omega, by go_num, HNEXT.out, LF2.out, B2.out⟩
                          case measure => simp [intOf]; omega
                        · rw [show decide (kp < kj) = false from decide_eq_false hcmp] at CL
                          have HBAD := Lib.hid (HBADJ.out hcmp)
                          clear hcmp HUPJ HBADJ
                          obtain ⟨m0, m1⟩ := LF.out.cells2
                          obtain ⟨s0, s1, s2, s3, s4, s5⟩ := LX.out.cells6
                          go_wp2_with fail
                          go_region_held3 (fun W => W.cell? ⟨b, off + j' * 6, none⟩ = some (.int .u32 (po : Int)) ∧ W.cell? ⟨b, off + j' * 6 + 1, none⟩ = some (.int .i64 ps) ∧ W.cell? ⟨b, off + j' * 6 + 2, none⟩ = some (.bool pu) ∧ W.cell? ⟨b, off + j' * 6 + 3, none⟩ = some pK ∧ W.cell? ⟨b, off + j' * 6 + 4, none⟩ = some (.int .i64 pc) ∧ W.cell? ⟨b, off + j' * 6 + 5, none⟩ = some pD ∧ W.cell? ⟨w.heap.size, 1, none⟩ = some (.slice (some ⟨b, off, none⟩) n c) ∧ W.cell? ⟨wr.heap.size, 0, none⟩ = some (.int .u32 (xo : Int)) ∧ W.cell? ⟨wr.heap.size, 1, none⟩ = some (.int .i64 xs) ∧ W.cell? ⟨wr.heap.size, 2, none⟩ = some (.bool xu) ∧ W.cell? ⟨wr.heap.size, 3, none⟩ = some (.slice A1 n1 c1) ∧ W.cell? ⟨wr.heap.size, 4, none⟩ = some (.int .i64 xc) ∧ W.cell? ⟨wr.heap.size, 5, none⟩ = some (.slice A2 n2 c2)) (first | go_keep | (obtain ⟨t0, t1, t2, t3, t4, t5⟩ := HAT2.out; obtain ⟨v0, v1, v2, v3, v4, v5⟩ := LX2.out.cells6; obtain ⟨u0, u1⟩ := LF2.out.cells2; exact ⟨t0, t1, t2, t3, t4, t5, u1, v0, v1, v2, v3, v4, v5⟩))
                            (first | (go_at_call 48; (with_reducible refine (CL.out _).mono ?_); (rintro y w2 ⟨rfl, hb⟩); (have B2 := Lib.hid (BX.out.drew.trans (hb.mono BX.out.size))); (have LX2 := Lib.hid (Lies.below (Lies.drew LX.out) hb (Lies.lt LX.out))); (have LF2 := Lib.hid (Lies.below (Lies.drew LF.out) hb (Lies.lt LF.out))); (have HAT2 := Lib.hid (HATF.out _ hb)); clear hb))
                          go_wp2
                          go_ret
                          exact ⟨ret_int (by rw [chkC_bad HBAD.out]; rfl), B2.out⟩
      · have hjn : j = n := by omega
        subst hjn
        have HOK : Hid (okB j T = true) := Lib.hid ((okB_iff j T).2 ⟨hn2, HUP.out⟩)
        go_wp2
        go_ret
        exact ⟨ret_int (by rw [chkC_ok HOK.out]; rfl), BB.out⟩

end Go.Proofs.Ytfcfejmammohpaa
