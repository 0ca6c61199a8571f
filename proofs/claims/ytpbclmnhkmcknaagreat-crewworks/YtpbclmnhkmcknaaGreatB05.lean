/-
  The contracts of isVerdict, isValid and Check.
-/
import Derived.Test.YtpbclmnhkmcknaaGreatB04
namespace Go.Proofs.YtpbclmnhkmcknaaGreat.Fe
open Go.RowKit
set_option maxRecDepth 100000
set_option linter.unusedVariables false
set_option linter.unusedSimpArgs false

theorem isVerdict_any (c : Int) (w : World) : Calls Tryz.prog 132 #[.int .i64 c] w fun e w' => e = .returned (.bool (decide (c = 1 ∨ c = 2))) ∧ w = w' := by
  by_cases h1 : c = 1
  · subst h1
    go_enter Tryz.func132, Tryz.ntmps132
    go_wp2
    go_ret
    exact ⟨rfl, rfl⟩
  · by_cases h2 : c = 2
    · subst h2
      go_enter Tryz.func132, Tryz.ntmps132
      go_wp2
      go_ret
      exact ⟨rfl, rfl⟩
    · have b1 : (c == 1) = false := by simpa using h1
      have b2 : (c == 2) = false := by simpa using h2
      rw [show decide (c = 1 ∨ c = 2) = false from by simp [h1, h2]]
      clear h1 h2
      go_enter Tryz.func132, Tryz.ntmps132
      go_wp2
      go_ret
      exact ⟨rfl, rfl⟩

set_option maxHeartbeats 4000000 in
theorem isValid_w (o : Nat) (s : Int) (u : Bool) (A1 : Option Addr) (n1 c1 : Nat) (c : Int) (A2 : Option Addr) (n2 c2 : Nat) (w : World) :
    Calls Tryz.prog 125 #[.agg #[.int .u32 (o : Int), .int .i64 s, .bool u, .slice A1 n1 c1, .int .i64 c, .slice A2 n2 c2]] w fun e w' =>
      e = .returned (.bool (decide (1 ≤ o ∧ 0 ≤ s ∧ s ≤ 15 ∧ n1 ≤ 255 ∧ n2 ≤ 255 ∧ (c = 1 ∨ c = 2)))) ∧ Below w.heap.size w w' := by
  have C := Lib.hid (fun W => isVerdict_any c W)
  have HB := Lib.hid (below1 w (.cells #[.int .u32 (o : Int), .int .i64 s, .bool u, .slice A1 n1 c1, .int .i64 c, .slice A2 n2 c2] 130))
  by_cases h0 : 1 ≤ o
  · skip
    by_cases h1 : 0 ≤ s
    · skip
      by_cases h2 : s ≤ 15
      · skip
        by_cases h3 : n1 ≤ 255
        · skip
          by_cases h4 : n2 ≤ 255
          · skip
            rw [show decide (1 ≤ o ∧ 0 ≤ s ∧ s ≤ 15 ∧ n1 ≤ 255 ∧ n2 ≤ 255 ∧ (c = 1 ∨ c = 2)) = decide (c = 1 ∨ c = 2) from by simp only [h0, h1, h2, h3, h4, true_and]]
            generalize decide (c = 1 ∨ c = 2) = q at *
            have d0_0 : decide ((1 : Int) ≤ (o : Int)) = true := by rw [decide_eq_true_iff]; omega
            have d0_1 : decide (1 ≤ o) = true := by rw [decide_eq_true_iff]; omega
            have d1_0 : decide (0 ≤ s) = true := by rw [decide_eq_true_iff]; omega
            have d2_0 : decide (s < 16) = true := by rw [decide_eq_true_iff]; omega
            have d3_0 : decide ((n1 : Int) ≤ 255) = true := by rw [decide_eq_true_iff]; omega
            have d3_1 : decide (n1 ≤ 255) = true := by rw [decide_eq_true_iff]; omega
            have d4_0 : decide ((n2 : Int) ≤ 255) = true := by rw [decide_eq_true_iff]; omega
            have d4_1 : decide (n2 ≤ 255) = true := by rw [decide_eq_true_iff]; omega
            clear h0 h1 h2 h3 h4
            go_enter Tryz.func125, Tryz.ntmps125
            go_wp2_with fail
            with_reducible refine (C.out _).mono ?_
            rintro e w1 ⟨rfl, rfl⟩
            go_wp2
            go_ret
            exact ⟨rfl, HB.out⟩
          · rw [show decide (1 ≤ o ∧ 0 ≤ s ∧ s ≤ 15 ∧ n1 ≤ 255 ∧ n2 ≤ 255 ∧ (c = 1 ∨ c = 2)) = false from by rw [decide_eq_false_iff_not]; omega]
            have d0_0 : decide ((1 : Int) ≤ (o : Int)) = true := by rw [decide_eq_true_iff]; omega
            have d0_1 : decide (1 ≤ o) = true := by rw [decide_eq_true_iff]; omega
            have d1_0 : decide (0 ≤ s) = true := by rw [decide_eq_true_iff]; omega
            have d2_0 : decide (s < 16) = true := by rw [decide_eq_true_iff]; omega
            have d3_0 : decide ((n1 : Int) ≤ 255) = true := by rw [decide_eq_true_iff]; omega
            have d3_1 : decide (n1 ≤ 255) = true := by rw [decide_eq_true_iff]; omega
            have d4_0 : decide ((n2 : Int) ≤ 255) = false := by rw [decide_eq_false_iff_not]; omega
            have d4_1 : decide (n2 ≤ 255) = false := by rw [decide_eq_false_iff_not]; omega
            clear h0 h1 h2 h3 h4
            go_enter Tryz.func125, Tryz.ntmps125
            go_wp2
            go_ret
            exact ⟨rfl, HB.out⟩
        · rw [show decide (1 ≤ o ∧ 0 ≤ s ∧ s ≤ 15 ∧ n1 ≤ 255 ∧ n2 ≤ 255 ∧ (c = 1 ∨ c = 2)) = false from by rw [decide_eq_false_iff_not]; omega]
          have d0_0 : decide ((1 : Int) ≤ (o : Int)) = true := by rw [decide_eq_true_iff]; omega
          have d0_1 : decide (1 ≤ o) = true := by rw [decide_eq_true_iff]; omega
          have d1_0 : decide (0 ≤ s) = true := by rw [decide_eq_true_iff]; omega
          have d2_0 : decide (s < 16) = true := by rw [decide_eq_true_iff]; omega
          have d3_0 : decide ((n1 : Int) ≤ 255) = false := by rw [decide_eq_false_iff_not]; omega
          have d3_1 : decide (n1 ≤ 255) = false := by rw [decide_eq_false_iff_not]; omega
          clear h0 h1 h2 h3
          go_enter Tryz.func125, Tryz.ntmps125
          go_wp2
          go_ret
          exact ⟨rfl, HB.out⟩
      · rw [show decide (1 ≤ o ∧ 0 ≤ s ∧ s ≤ 15 ∧ n1 ≤ 255 ∧ n2 ≤ 255 ∧ (c = 1 ∨ c = 2)) = false from by rw [decide_eq_false_iff_not]; omega]
        have d0_0 : decide ((1 : Int) ≤ (o : Int)) = true := by rw [decide_eq_true_iff]; omega
        have d0_1 : decide (1 ≤ o) = true := by rw [decide_eq_true_iff]; omega
        have d1_0 : decide (0 ≤ s) = true := by rw [decide_eq_true_iff]; omega
        have d2_0 : decide (s < 16) = false := by rw [decide_eq_false_iff_not]; omega
        clear h0 h1 h2
        go_enter Tryz.func125, Tryz.ntmps125
        go_wp2
        go_ret
        exact ⟨rfl, HB.out⟩
    · rw [show decide (1 ≤ o ∧ 0 ≤ s ∧ s ≤ 15 ∧ n1 ≤ 255 ∧ n2 ≤ 255 ∧ (c = 1 ∨ c = 2)) = false from by rw [decide_eq_false_iff_not]; omega]
      have d0_0 : decide ((1 : Int) ≤ (o : Int)) = true := by rw [decide_eq_true_iff]; omega
      have d0_1 : decide (1 ≤ o) = true := by rw [decide_eq_true_iff]; omega
      have d1_0 : decide (0 ≤ s) = false := by rw [decide_eq_false_iff_not]; omega
      clear h0 h1
      go_enter Tryz.func125, Tryz.ntmps125
      go_wp2
      go_ret
      exact ⟨rfl, HB.out⟩
  · rw [show decide (1 ≤ o ∧ 0 ≤ s ∧ s ≤ 15 ∧ n1 ≤ 255 ∧ n2 ≤ 255 ∧ (c = 1 ∨ c = 2)) = false from by rw [decide_eq_false_iff_not]; omega]
    have d0_0 : decide ((1 : Int) ≤ (o : Int)) = false := by rw [decide_eq_false_iff_not]; omega
    have d0_1 : decide (1 ≤ o) = false := by rw [decide_eq_false_iff_not]; omega
    clear h0
    go_enter Tryz.func125, Tryz.ntmps125
    go_wp2
    go_ret
    exact ⟨rfl, HB.out⟩

theorem KT.slices {w : World} {x : Kx} (h : KT w x) : ∃ A1 c1 A2 c2, x.K = .slice A1 x.k.a.length c1 ∧ x.D = .slice A2 x.k.r.length c2 := by
  obtain ⟨A1, c1, e1, _⟩ := h.a
  obtain ⟨A2, c2, e2, _⟩ := h.r
  exact ⟨A1, c1, A2, c2, e1, e2⟩
theorem isValid_any (x : Kx) (A1 A2 : Option Addr) (c1 c2 : Nat) (hK : x.K = .slice A1 x.k.a.length c1) (hD : x.D = .slice A2 x.k.r.length c2) (w : World) :
    Calls Tryz.prog 125 #[.agg (kc x)] w fun e w' => e = .returned (.bool (vk x.k)) ∧ Below w.heap.size w w' := by
  have h := isValid_w x.k.o x.k.s x.k.u A1 x.k.a.length c1 x.k.c A2 x.k.r.length c2 w
  rw [← hK, ← hD] at h
  exact h

theorem chkC_bad {n : Nat} {T : Nat → Kp} (h : okB n T = false) : chkC n T = 2 := by unfold chkC; rw [h]; rfl
theorem chkC_ok {n : Nat} {T : Nat → Kp} (h : okB n T = true) : chkC n T = 0 := by unfold chkC; rw [h]; rfl
/-- The key that stands ahead. -/
def prevK (T : Nat → Kp) (j : Nat) : Kp := if j = 0 then kz else T (j - 1)
def CkR (w : World) (n : Nat) (T : Nat → Kp) (g : Nat) (i : Value) (wr : World) : Prop :=
  ∃ j : Nat, j ≤ n ∧ i = .int .i64 (j : Int) ∧ upTo T j ∧ Lies wr g 204 (ky (prevK T j).o (prevK T j).s (prevK T j).u) ∧ Below w.heap.size w wr
theorem prev_lt {T : Nat → Kp} {j : Nat} (hv : vk (T j) = true) : (prevK T j).k < (T j).k ↔ (0 < j → (T (j - 1)).k < (T j).k) := by
  unfold prevK
  by_cases h : j = 0
  · subst h
    rw [if_pos rfl]
    refine ⟨fun _ h => by omega, fun _ => ?_⟩
    have := (vk_iff _).1 hv
    show kn 0 0 false < kn _ _ _
    have h2 := b2n_le (T 0).u
    unfold kn Ent.b2n
    simp
    omega
  · rw [if_neg h]
    exact ⟨fun h _ => h, fun h' => h' (by omega)⟩
theorem prev_bnd {T : Nat → Kp} {j : Nat} (h : upTo T j) : in64 (prevK T j).s := by
  unfold prevK
  by_cases h0 : j = 0
  · rw [if_pos h0]; unfold in64; decide
  · rw [if_neg h0]
    have := (vk_iff _).1 (h (j - 1) (by omega)).1
    unfold in64; omega
set_option maxHeartbeats 8000000 in
theorem check_fence (ep : Nat) (A : Option Addr) (n c : Nat) (T : Nat → Kp) (w : World) (hF : FV w A n c T) :
    Calls Tryz.prog 95 #[.agg #[.int .u32 (ep : Int), .slice A n c]] w fun e w' => e = .returned (.int .i64 (chkC n T : Nat)) ∧ Below w.heap.size w w' := by
  by_cases hn : 200 < n
  · rw [chkC_bad (okB_big hn)]
    have d1 : decide ((200 : Int) < (n : Int)) = true := by rw [decide_eq_true_iff]; omega
    have d2 : decide (200 < n) = true := by rw [decide_eq_true_iff]; omega
    have HB := Lib.hid (below1 w (.cells #[.int .u32 (ep : Int), .slice A n c] 64))
    clear hF
    go_enter Tryz.func95, Tryz.ntmps95
    go_wp2
    go_ret
    exact ⟨rfl, HB.out⟩
  · obtain ⟨_, _, _, X, hK, hX⟩ := hF
    have d1 : decide ((200 : Int) < (n : Int)) = false := by rw [decide_eq_false_iff_not]; omega
    have d2 : decide (200 < n) = false := by rw [decide_eq_false_iff_not]; omega
    have HK := Lib.hid hK
    have HX := Lib.hid hX
    have hn2 : n ≤ 200 := by omega
    clear hK hX hn
    have LB := Lib.hid (Lies.made2 w (.cells #[.int .u32 (ep : Int), .slice A n c] 64) 204 #[.int .u32 0, .int .i64 0, .bool false])
    have HB := Lib.hid (below2 w (.cells #[.int .u32 (ep : Int), .slice A n c] 64) (.cells #[.int .u32 0, .int .i64 0, .bool false] 204))
    go_enter Tryz.func95, Tryz.ntmps95
    go_wp2_with fail
    go_loopw [13] (CkR w n T (w.heap.size + 1)) (fun i _ => n - (intOf i).toNat)
    case atStart => exact ⟨0, by omega, rfl, (fun i hi => by omega), LB.out, HB.out⟩
    case round =>
      obtain ⟨j, hj, rfl, hup, hL, hbel⟩ := hrel
      have HUP := Lib.hid hup
      have HL := Lib.hid hL
      have BB := Lib.hid hbel
      have HPB := Lib.hid (prev_bnd hup)
      clear hup hL hbel
      by_cases hlt : j < n
      · obtain ⟨b, off, rfl, _⟩ := HK.out.1 (by omega)
        have HKW := Lib.hid (HK.out.below BB.out)
        obtain ⟨q0, q1, q2, q3, q4, q5⟩ := HKW.out.at j hlt
        have hi : (j : Int) < (n : Int) := by omega
        have HKT := Lib.hid (HKW.out.2 j hlt)
        obtain ⟨A1, c1, A2, c2, e1, e2⟩ := HKT.out.slices
        have HTJ := Lib.hid (HX.out j hlt)
        have HPE : Hid ((prevK T (j + 1)).o = (X j).k.o ∧ (prevK T (j + 1)).s = (X j).k.s ∧ (prevK T (j + 1)).u = (X j).k.u) := Lib.hid (by
          have e : prevK T (j + 1) = T j := by unfold prevK; rw [if_neg (by omega), Nat.add_sub_cancel]
          rw [e, HTJ.out]; exact ⟨rfl, rfl, rfl⟩)
        have CV := Lib.hid (fun W => isValid_any (X j) A1 A2 c1 c2 e1 e2 W)
        have CK := Lib.hid (fun W => keyOf_any (X j) W)
        have CC := Lib.hid (fun W => compareKeys_any (prevK T j).o (X j).k.o (prevK T j).s (X j).k.s (prevK T j).u (X j).k.u HPB.out HKT.out.s W)
        have HVK : Hid (vk (X j).k = vk (T j)) := Lib.hid (by rw [HTJ.out])
        have HKE : Hid (kn (X j).k.o (X j).k.s (X j).k.u = (T j).k) := Lib.hid (by rw [HTJ.out])
        rw [HVK.out] at CV
        rw [HKE.out] at CC
        have HPL := Lib.hid (show vk (T j) = true → (kn (prevK T j).o (prevK T j).s (prevK T j).u < (T j).k ↔ (0 < j → (T (j - 1)).k < (T j).k)) from fun hv => prev_lt (T := T) (j := j) hv)
        have LY := Lib.hid (HL.out.alloc (.cells (kc (X j)) 130))
        have LX := Lib.hid (Lies.made wr 130 (kc (X j)))
        have BX := Lib.hid (BB.out.alloc BB.out.size (.cells (kc (X j)) 130))
        clear HKW HKT HPB HL HVK HKE
        rw [e1] at q3
        rw [e2] at q5
        generalize X j = x at *
        obtain ⟨⟨xo, xs, xu, xa, xc, xr⟩, xK, xD⟩ := x
        dsimp only at *
        subst e1 e2
        generalize xa.length = n1 at *
        generalize xr.length = n2 at *
        generalize kn (prevK T j).o (prevK T j).s (prevK T j).u = pk at *
        generalize (prevK T j).o = po at *
        generalize (prevK T j).s = ps at *
        generalize (prevK T j).u = pu at *
        obtain ⟨k0, k1, k2⟩ := LY.out.cells3
        obtain ⟨f0, f1, f2⟩ := LY.out.free3
        cases hv : vk (T j)
        · rw [hv] at CV
          have HBAD : Hid (okB n T = false) := Lib.hid (okB_bad j hlt (by unfold goodAt; rw [hv]; rfl))
          clear hv HPL
          go_wp2_with fail
          clear k0 k1 k2 f0 f1 f2
          refine wp_region_noPanic ?_
          refine wp_region_held_drew (S := fun W => Lies W (w.heap.size + 1) 204 #[.int .u32 (po : Int), .int .i64 ps, .bool pu] ∧ Lies W wr.heap.size 130 #[.int .u32 (xo : Int), .int .i64 xs, .bool xu, .slice A1 n1 c1, .int .i64 xc, .slice A2 n2 c2]) (by kernel_rfl) ⟨LY.out, LX.out⟩ (fun hH0 => ?_)
          refine any_take 0 17 ?vk1x0 rfl rfl (by kernel_rfl) (by kernel_rfl) (by kernel_rfl) (fun _ _ _ h => h) (by rfl) ?hyk1x0 hH0 ?restk1x0
          case hyk1x0 => ((intro W hSw); obtain ⟨o0_0, o0_1, o0_2⟩ := Lies.cells3 hSw.1; obtain ⟨o1_0, o1_1, o1_2, o1_3, o1_4, o1_5⟩ := Lies.cells6 hSw.2; go_simp; (try with_reducible rfl))
          try simp only [Act.put, List.setIfInBounds_toArray, List.set_cons_zero, List.set_cons_succ]
          refine wpAnyH_ready (rs := [1]) (by kernel_rfl) (by simp) ?_
          refine AllReadyH.cons rfl (fun K hK => ?_) AllReadyH.nil
          go_simp
          go_at_call 125
          with_reducible refine (CV.out _).mono ?_
          rintro x w1 ⟨rfl, hb⟩
          have LY_1 := Lib.hid (Lies.below (w := (wr.alloc (.cells #[.int .u32 (xo : Int), .int .i64 xs, .bool xu, .slice A1 n1 c1, .int .i64 xc, .slice A2 n2 c2] 130)).drew) LY.out hb (Lies.lt LY.out))
          have LX_1 := Lib.hid (Lies.below (w := (wr.alloc (.cells #[.int .u32 (xo : Int), .int .i64 xs, .bool xu, .slice A1 n1 c1, .int .i64 xc, .slice A2 n2 c2] 130)).drew) LX.out hb (Lies.lt LX.out))
          have BX_1 := Lib.hid (BX.out.drew.trans (hb.mono BX.out.size))
          refine hK.out _ _ (⟨LY_1.out, LX_1.out⟩) (fun hH1 => ?_)
          clear hK K hH0 hb
          try simp only [Act.put, List.setIfInBounds_toArray, List.set_cons_zero, List.set_cons_succ]
          refine any_take 2 19 ?vk1x2 rfl rfl (by kernel_rfl) (by kernel_rfl) (by kernel_rfl) (fun _ _ _ h => h) (by rfl) ?hyk1x2 hH1 ?restk1x2
          case hyk1x2 => ((intro W hSw); obtain ⟨o0_0, o0_1, o0_2⟩ := Lies.cells3 hSw.1; obtain ⟨o1_0, o1_1, o1_2, o1_3, o1_4, o1_5⟩ := Lies.cells6 hSw.2; go_simp; (try with_reducible rfl))
          try simp only [Act.put, List.setIfInBounds_toArray, List.set_cons_zero, List.set_cons_succ]
          refine any_take 3 20 ?vk1x3 rfl rfl (by kernel_rfl) (by kernel_rfl) (by kernel_rfl) (fun _ _ _ h => h) (by rfl) ?hyk1x3 hH1 ?restk1x3
          case hyk1x3 => ((intro W hSw); obtain ⟨o0_0, o0_1, o0_2⟩ := Lies.cells3 hSw.1; obtain ⟨o1_0, o1_1, o1_2, o1_3, o1_4, o1_5⟩ := Lies.cells6 hSw.2; go_simp; (try with_reducible rfl))
          try simp only [Act.put, List.setIfInBounds_toArray, List.set_cons_zero, List.set_cons_succ]
          refine any_skip 4 21 rfl rfl (by kernel_rfl) (by kernel_rfl) (by kernel_rfl) (fun _ _ _ h => h) (by rfl) hH1 ?_
          try simp only [Act.put, List.setIfInBounds_toArray, List.set_cons_zero, List.set_cons_succ]
          refine any_skip 5 22 rfl rfl (by kernel_rfl) (by kernel_rfl) (by kernel_rfl) (fun _ _ _ h => h) (by rfl) hH1 ?_
          try simp only [Act.put, List.setIfInBounds_toArray, List.set_cons_zero, List.set_cons_succ]
          refine any_skip 6 23 rfl rfl (by kernel_rfl) (by kernel_rfl) (by kernel_rfl) (fun _ _ _ h => h) (by rfl) hH1 ?_
          try simp only [Act.put, List.setIfInBounds_toArray, List.set_cons_zero, List.set_cons_succ]
          refine any_skip 7 24 rfl rfl (by kernel_rfl) (by kernel_rfl) (by kernel_rfl) (fun _ _ _ h => h) (by rfl) hH1 ?_
          try simp only [Act.put, List.setIfInBounds_toArray, List.set_cons_zero, List.set_cons_succ]
          refine any_skip 8 25 rfl rfl (by kernel_rfl) (by kernel_rfl) (by kernel_rfl) (fun _ _ _ h => h) (by rfl) hH1 ?_
          try simp only [Act.put, List.setIfInBounds_toArray, List.set_cons_zero, List.set_cons_succ]
          refine any_take 9 26 ?vk1x9 rfl rfl (by kernel_rfl) (by kernel_rfl) (by kernel_rfl) (fun _ _ _ h => h) (by rfl) ?hyk1x9 hH1 ?restk1x9
          case hyk1x9 => ((intro W hSw); obtain ⟨o0_0, o0_1, o0_2⟩ := Lies.cells3 hSw.1; obtain ⟨o1_0, o1_1, o1_2, o1_3, o1_4, o1_5⟩ := Lies.cells6 hSw.2; go_simp; (try with_reducible rfl))
          try simp only [Act.put, List.setIfInBounds_toArray, List.set_cons_zero, List.set_cons_succ]
          clear hH1
          refine wpAnyH_done (by kernel_rfl) ?_ _
          refine NoPanic.normal ?_
          go_wp2
          go_ret
          exact ⟨ret_int (by rw [chkC_bad HBAD.out]; rfl), BX_1.out⟩
        · rw [hv] at CV
          have HPL2 := Lib.hid (HPL.out hv)
          by_cases hlt2 : pk < (T j).k
          · have HNEXT : Hid (upTo T (j + 1)) := Lib.hid (fun i hi => by
              by_cases e : i = j
              · rw [e]; exact ⟨hv, (HPL2.out).1 hlt2⟩
              · exact HUP.out i (by omega))
            rw [cmpI_lt hlt2] at CC
            clear hv hlt2 HPL HPL2
            go_wp2_with fail
            clear k0 k1 k2 f0 f1 f2
            refine wp_region_noPanic ?_
            refine wp_region_held_drew (S := fun W => Lies W (w.heap.size + 1) 204 #[.int .u32 (po : Int), .int .i64 ps, .bool pu] ∧ Lies W wr.heap.size 130 #[.int .u32 (xo : Int), .int .i64 xs, .bool xu, .slice A1 n1 c1, .int .i64 xc, .slice A2 n2 c2]) (by kernel_rfl) ⟨LY.out, LX.out⟩ (fun hH0 => ?_)
            refine any_take 0 17 ?vk2x0 rfl rfl (by kernel_rfl) (by kernel_rfl) (by kernel_rfl) (fun _ _ _ h => h) (by rfl) ?hyk2x0 hH0 ?restk2x0
            case hyk2x0 => ((intro W hSw); obtain ⟨o0_0, o0_1, o0_2⟩ := Lies.cells3 hSw.1; obtain ⟨o1_0, o1_1, o1_2, o1_3, o1_4, o1_5⟩ := Lies.cells6 hSw.2; go_simp; (try with_reducible rfl))
            try simp only [Act.put, List.setIfInBounds_toArray, List.set_cons_zero, List.set_cons_succ]
            refine wpAnyH_ready (rs := [1]) (by kernel_rfl) (by simp) ?_
            refine AllReadyH.cons rfl (fun K hK => ?_) AllReadyH.nil
            go_simp
            go_at_call 125
            with_reducible refine (CV.out _).mono ?_
            rintro x w1 ⟨rfl, hb⟩
            have LY_1 := Lib.hid (Lies.below (w := (wr.alloc (.cells #[.int .u32 (xo : Int), .int .i64 xs, .bool xu, .slice A1 n1 c1, .int .i64 xc, .slice A2 n2 c2] 130)).drew) LY.out hb (Lies.lt LY.out))
            have LX_1 := Lib.hid (Lies.below (w := (wr.alloc (.cells #[.int .u32 (xo : Int), .int .i64 xs, .bool xu, .slice A1 n1 c1, .int .i64 xc, .slice A2 n2 c2] 130)).drew) LX.out hb (Lies.lt LX.out))
            have BX_1 := Lib.hid (BX.out.drew.trans (hb.mono BX.out.size))
            refine hK.out _ _ (⟨LY_1.out, LX_1.out⟩) (fun hH1 => ?_)
            clear hK K hH0 hb
            try simp only [Act.put, List.setIfInBounds_toArray, List.set_cons_zero, List.set_cons_succ]
            refine any_take 2 19 ?vk2x2 rfl rfl (by kernel_rfl) (by kernel_rfl) (by kernel_rfl) (fun _ _ _ h => h) (by rfl) ?hyk2x2 hH1 ?restk2x2
            case hyk2x2 => ((intro W hSw); obtain ⟨o0_0, o0_1, o0_2⟩ := Lies.cells3 hSw.1; obtain ⟨o1_0, o1_1, o1_2, o1_3, o1_4, o1_5⟩ := Lies.cells6 hSw.2; go_simp; (try with_reducible rfl))
            try simp only [Act.put, List.setIfInBounds_toArray, List.set_cons_zero, List.set_cons_succ]
            refine any_take 3 20 ?vk2x3 rfl rfl (by kernel_rfl) (by kernel_rfl) (by kernel_rfl) (fun _ _ _ h => h) (by rfl) ?hyk2x3 hH1 ?restk2x3
            case hyk2x3 => ((intro W hSw); obtain ⟨o0_0, o0_1, o0_2⟩ := Lies.cells3 hSw.1; obtain ⟨o1_0, o1_1, o1_2, o1_3, o1_4, o1_5⟩ := Lies.cells6 hSw.2; go_simp; (try with_reducible rfl))
            try simp only [Act.put, List.setIfInBounds_toArray, List.set_cons_zero, List.set_cons_succ]
            refine any_take 4 21 ?vk2x4 rfl rfl (by kernel_rfl) (by kernel_rfl) (by kernel_rfl) (fun _ _ _ h => h) (by rfl) ?hyk2x4 hH1 ?restk2x4
            case hyk2x4 => ((intro W hSw); obtain ⟨o0_0, o0_1, o0_2⟩ := Lies.cells3 hSw.1; obtain ⟨o1_0, o1_1, o1_2, o1_3, o1_4, o1_5⟩ := Lies.cells6 hSw.2; go_simp; (try with_reducible rfl))
            try simp only [Act.put, List.setIfInBounds_toArray, List.set_cons_zero, List.set_cons_succ]
            refine any_take 5 22 ?vk2x5 rfl rfl (by kernel_rfl) (by kernel_rfl) (by kernel_rfl) (fun _ _ _ h => h) (by rfl) ?hyk2x5 hH1 ?restk2x5
            case hyk2x5 => ((intro W hSw); obtain ⟨o0_0, o0_1, o0_2⟩ := Lies.cells3 hSw.1; obtain ⟨o1_0, o1_1, o1_2, o1_3, o1_4, o1_5⟩ := Lies.cells6 hSw.2; go_simp; (try with_reducible rfl))
            try simp only [Act.put, List.setIfInBounds_toArray, List.set_cons_zero, List.set_cons_succ]
            refine wpAnyH_ready (rs := [6]) (by kernel_rfl) (by simp) ?_
            refine AllReadyH.cons rfl (fun K hK => ?_) AllReadyH.nil
            go_simp
            go_at_call 127
            with_reducible refine (CK.out _).mono ?_
            rintro x w2 ⟨rfl, hb⟩
            have LY_2 := Lib.hid (Lies.below (w := w1) LY_1.out hb (Lies.lt LY_1.out))
            have LX_2 := Lib.hid (Lies.below (w := w1) LX_1.out hb (Lies.lt LX_1.out))
            have BX_2 := Lib.hid (BX_1.out.trans (hb.mono BX_1.out.size))
            refine hK.out _ _ (⟨LY_2.out, LX_2.out⟩) (fun hH2 => ?_)
            clear hK K hH1 hb
            try simp only [Act.put, List.setIfInBounds_toArray, List.set_cons_zero, List.set_cons_succ]
            refine wpAnyH_ready (rs := [7]) (by kernel_rfl) (by simp) ?_
            refine AllReadyH.cons rfl (fun K hK => ?_) AllReadyH.nil
            go_simp
            go_at_call 126
            with_reducible refine (CC.out _).mono ?_
            rintro x w3 ⟨rfl, hb⟩
            have LY_3 := Lib.hid (Lies.below (w := w2) LY_2.out hb (Lies.lt LY_2.out))
            have LX_3 := Lib.hid (Lies.below (w := w2) LX_2.out hb (Lies.lt LX_2.out))
            have BX_3 := Lib.hid (BX_2.out.trans (hb.mono BX_2.out.size))
            refine hK.out _ _ (⟨LY_3.out, LX_3.out⟩) (fun hH3 => ?_)
            clear hK K hH2 hb
            try simp only [Act.put, List.setIfInBounds_toArray, List.set_cons_zero, List.set_cons_succ]
            refine any_take 8 25 ?vk2x8 rfl rfl (by kernel_rfl) (by kernel_rfl) (by kernel_rfl) (fun _ _ _ h => h) (by rfl) ?hyk2x8 hH3 ?restk2x8
            case hyk2x8 => ((intro W hSw); obtain ⟨o0_0, o0_1, o0_2⟩ := Lies.cells3 hSw.1; obtain ⟨o1_0, o1_1, o1_2, o1_3, o1_4, o1_5⟩ := Lies.cells6 hSw.2; go_simp; (try with_reducible rfl))
            try simp only [Act.put, List.setIfInBounds_toArray, List.set_cons_zero, List.set_cons_succ]
            refine any_take 9 26 ?vk2x9 rfl rfl (by kernel_rfl) (by kernel_rfl) (by kernel_rfl) (fun _ _ _ h => h) (by rfl) ?hyk2x9 hH3 ?restk2x9
            case hyk2x9 => ((intro W hSw); obtain ⟨o0_0, o0_1, o0_2⟩ := Lies.cells3 hSw.1; obtain ⟨o1_0, o1_1, o1_2, o1_3, o1_4, o1_5⟩ := Lies.cells6 hSw.2; go_simp; (try with_reducible rfl))
            try simp only [Act.put, List.setIfInBounds_toArray, List.set_cons_zero, List.set_cons_succ]
            clear hH3
            refine wpAnyH_done (by kernel_rfl) ?_ _
            refine NoPanic.normal ?_
            obtain ⟨c0_0, c0_1, c0_2⟩ := LY_3.out.cells3
            obtain ⟨cf0_0, cf0_1, cf0_2⟩ := LY_3.out.free3
            obtain ⟨c1_0, c1_1, c1_2, c1_3, c1_4, c1_5⟩ := LX_3.out.cells6
            obtain ⟨cf1_0, cf1_1, cf1_2, cf1_3, cf1_4, cf1_5⟩ := LX_3.out.free6
            go_wp2_with fail
            with_reducible refine (CK.out _).mono ?_
            rintro x w4 ⟨rfl, hb⟩
            have LY4 := Lib.hid (LY_3.out.below hb LY_3.out.lt)
            have BX4 := Lib.hid (BX_3.out.trans (hb.mono BX_3.out.size))
            clear hb c0_0 c0_1 c0_2 cf0_0 cf0_1 cf0_2 c1_0 c1_1 c1_2 c1_3 c1_4 c1_5 cf1_0 cf1_1 cf1_2 cf1_3 cf1_4 cf1_5
            obtain ⟨k0, k1, k2⟩ := LY4.out.cells3
            obtain ⟨f0, f1, f2⟩ := LY4.out.free3
            go_wp2
            go_roundw
            case rel =>
              refine ⟨j + 1, by omega, by go_num, HNEXT.out, ?_, ((BX4.out.setCell (p := ⟨w.heap.size + 1, 0, none⟩) (Nat.le_succ _) _).setCell (p := ⟨w.heap.size + 1, 1, none⟩) (Nat.le_succ _) _).setCell (p := ⟨w.heap.size + 1, 2, none⟩) (Nat.le_succ _) _⟩
              rw [HPE.out.1, HPE.out.2.1, HPE.out.2.2]
              exact ((LY4.out.put 0 _).put 1 _).put 2 _
            case measure => simp [intOf]; omega
          · have HBAD : Hid (okB n T = false) := Lib.hid (okB_bad j hlt (by
              rw [Bool.eq_false_iff]; intro hg
              exact hlt2 ((HPL2.out).2 ((goodAt_iff T j).1 hg).2)))
            obtain ⟨cq, hcq, hcq2⟩ : ∃ cq : Int, 0 ≤ cq ∧ cmpI pk (T j).k = cq := ⟨_, by unfold cmpI; rw [if_neg hlt2]; split <;> omega, rfl⟩
            rw [hcq2] at CC
            have dq : decide (0 ≤ cq) = true := decide_eq_true hcq
            clear hv hlt2 HPL HPL2 hcq2 hcq
            go_wp2_with fail
            clear k0 k1 k2 f0 f1 f2
            refine wp_region_noPanic ?_
            refine wp_region_held_drew (S := fun W => Lies W (w.heap.size + 1) 204 #[.int .u32 (po : Int), .int .i64 ps, .bool pu] ∧ Lies W wr.heap.size 130 #[.int .u32 (xo : Int), .int .i64 xs, .bool xu, .slice A1 n1 c1, .int .i64 xc, .slice A2 n2 c2]) (by kernel_rfl) ⟨LY.out, LX.out⟩ (fun hH0 => ?_)
            refine any_take 0 17 ?vk3x0 rfl rfl (by kernel_rfl) (by kernel_rfl) (by kernel_rfl) (fun _ _ _ h => h) (by rfl) ?hyk3x0 hH0 ?restk3x0
            case hyk3x0 => ((intro W hSw); obtain ⟨o0_0, o0_1, o0_2⟩ := Lies.cells3 hSw.1; obtain ⟨o1_0, o1_1, o1_2, o1_3, o1_4, o1_5⟩ := Lies.cells6 hSw.2; go_simp; (try with_reducible rfl))
            try simp only [Act.put, List.setIfInBounds_toArray, List.set_cons_zero, List.set_cons_succ]
            refine wpAnyH_ready (rs := [1]) (by kernel_rfl) (by simp) ?_
            refine AllReadyH.cons rfl (fun K hK => ?_) AllReadyH.nil
            go_simp
            go_at_call 125
            with_reducible refine (CV.out _).mono ?_
            rintro x w1 ⟨rfl, hb⟩
            have LY_1 := Lib.hid (Lies.below (w := (wr.alloc (.cells #[.int .u32 (xo : Int), .int .i64 xs, .bool xu, .slice A1 n1 c1, .int .i64 xc, .slice A2 n2 c2] 130)).drew) LY.out hb (Lies.lt LY.out))
            have LX_1 := Lib.hid (Lies.below (w := (wr.alloc (.cells #[.int .u32 (xo : Int), .int .i64 xs, .bool xu, .slice A1 n1 c1, .int .i64 xc, .slice A2 n2 c2] 130)).drew) LX.out hb (Lies.lt LX.out))
            have BX_1 := Lib.hid (BX.out.drew.trans (hb.mono BX.out.size))
            refine hK.out _ _ (⟨LY_1.out, LX_1.out⟩) (fun hH1 => ?_)
            clear hK K hH0 hb
            try simp only [Act.put, List.setIfInBounds_toArray, List.set_cons_zero, List.set_cons_succ]
            refine any_take 2 19 ?vk3x2 rfl rfl (by kernel_rfl) (by kernel_rfl) (by kernel_rfl) (fun _ _ _ h => h) (by rfl) ?hyk3x2 hH1 ?restk3x2
            case hyk3x2 => ((intro W hSw); obtain ⟨o0_0, o0_1, o0_2⟩ := Lies.cells3 hSw.1; obtain ⟨o1_0, o1_1, o1_2, o1_3, o1_4, o1_5⟩ := Lies.cells6 hSw.2; go_simp; (try with_reducible rfl))
            try simp only [Act.put, List.setIfInBounds_toArray, List.set_cons_zero, List.set_cons_succ]
            refine any_take 3 20 ?vk3x3 rfl rfl (by kernel_rfl) (by kernel_rfl) (by kernel_rfl) (fun _ _ _ h => h) (by rfl) ?hyk3x3 hH1 ?restk3x3
            case hyk3x3 => ((intro W hSw); obtain ⟨o0_0, o0_1, o0_2⟩ := Lies.cells3 hSw.1; obtain ⟨o1_0, o1_1, o1_2, o1_3, o1_4, o1_5⟩ := Lies.cells6 hSw.2; go_simp; (try with_reducible rfl))
            try simp only [Act.put, List.setIfInBounds_toArray, List.set_cons_zero, List.set_cons_succ]
            refine any_take 4 21 ?vk3x4 rfl rfl (by kernel_rfl) (by kernel_rfl) (by kernel_rfl) (fun _ _ _ h => h) (by rfl) ?hyk3x4 hH1 ?restk3x4
            case hyk3x4 => ((intro W hSw); obtain ⟨o0_0, o0_1, o0_2⟩ := Lies.cells3 hSw.1; obtain ⟨o1_0, o1_1, o1_2, o1_3, o1_4, o1_5⟩ := Lies.cells6 hSw.2; go_simp; (try with_reducible rfl))
            try simp only [Act.put, List.setIfInBounds_toArray, List.set_cons_zero, List.set_cons_succ]
            refine any_take 5 22 ?vk3x5 rfl rfl (by kernel_rfl) (by kernel_rfl) (by kernel_rfl) (fun _ _ _ h => h) (by rfl) ?hyk3x5 hH1 ?restk3x5
            case hyk3x5 => ((intro W hSw); obtain ⟨o0_0, o0_1, o0_2⟩ := Lies.cells3 hSw.1; obtain ⟨o1_0, o1_1, o1_2, o1_3, o1_4, o1_5⟩ := Lies.cells6 hSw.2; go_simp; (try with_reducible rfl))
            try simp only [Act.put, List.setIfInBounds_toArray, List.set_cons_zero, List.set_cons_succ]
            refine wpAnyH_ready (rs := [6]) (by kernel_rfl) (by simp) ?_
            refine AllReadyH.cons rfl (fun K hK => ?_) AllReadyH.nil
            go_simp
            go_at_call 127
            with_reducible refine (CK.out _).mono ?_
            rintro x w2 ⟨rfl, hb⟩
            have LY_2 := Lib.hid (Lies.below (w := w1) LY_1.out hb (Lies.lt LY_1.out))
            have LX_2 := Lib.hid (Lies.below (w := w1) LX_1.out hb (Lies.lt LX_1.out))
            have BX_2 := Lib.hid (BX_1.out.trans (hb.mono BX_1.out.size))
            refine hK.out _ _ (⟨LY_2.out, LX_2.out⟩) (fun hH2 => ?_)
            clear hK K hH1 hb
            try simp only [Act.put, List.setIfInBounds_toArray, List.set_cons_zero, List.set_cons_succ]
            refine wpAnyH_ready (rs := [7]) (by kernel_rfl) (by simp) ?_
            refine AllReadyH.cons rfl (fun K hK => ?_) AllReadyH.nil
            go_simp
            go_at_call 126
            with_reducible refine (CC.out _).mono ?_
            rintro x w3 ⟨rfl, hb⟩
            have LY_3 := Lib.hid (Lies.below (w := w2) LY_2.out hb (Lies.lt LY_2.out))
            have LX_3 := Lib.hid (Lies.below (w := w2) LX_2.out hb (Lies.lt LX_2.out))
            have BX_3 := Lib.hid (BX_2.out.trans (hb.mono BX_2.out.size))
            refine hK.out _ _ (⟨LY_3.out, LX_3.out⟩) (fun hH3 => ?_)
            clear hK K hH2 hb
            try simp only [Act.put, List.setIfInBounds_toArray, List.set_cons_zero, List.set_cons_succ]
            refine any_take 8 25 ?vk3x8 rfl rfl (by kernel_rfl) (by kernel_rfl) (by kernel_rfl) (fun _ _ _ h => h) (by rfl) ?hyk3x8 hH3 ?restk3x8
            case hyk3x8 => ((intro W hSw); obtain ⟨o0_0, o0_1, o0_2⟩ := Lies.cells3 hSw.1; obtain ⟨o1_0, o1_1, o1_2, o1_3, o1_4, o1_5⟩ := Lies.cells6 hSw.2; go_simp; (try with_reducible rfl))
            try simp only [Act.put, List.setIfInBounds_toArray, List.set_cons_zero, List.set_cons_succ]
            refine any_take 9 26 ?vk3x9 rfl rfl (by kernel_rfl) (by kernel_rfl) (by kernel_rfl) (fun _ _ _ h => h) (by rfl) ?hyk3x9 hH3 ?restk3x9
            case hyk3x9 => ((intro W hSw); obtain ⟨o0_0, o0_1, o0_2⟩ := Lies.cells3 hSw.1; obtain ⟨o1_0, o1_1, o1_2, o1_3, o1_4, o1_5⟩ := Lies.cells6 hSw.2; go_simp; (try with_reducible rfl))
            try simp only [Act.put, List.setIfInBounds_toArray, List.set_cons_zero, List.set_cons_succ]
            clear hH3
            refine wpAnyH_done (by kernel_rfl) ?_ _
            refine NoPanic.normal ?_
            go_wp2
            go_ret
            exact ⟨ret_int (by rw [chkC_bad HBAD.out]; rfl), BX_3.out⟩
      · have hjn : j = n := by omega
        subst hjn
        have HOK : Hid (okB j T = true) := Lib.hid ((okB_iff j T).2 ⟨hn2, HUP.out⟩)
        go_wp2
        go_ret
        exact ⟨ret_int (by rw [chkC_ok HOK.out]; rfl), BB.out⟩

end Go.Proofs.YtpbclmnhkmcknaaGreat.Fe
