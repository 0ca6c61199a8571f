/-
  The contract of Keep.
-/
import Derived.Test.YtfcfejmammohpaaKeepP
import Derived.Deep.RegionHeld3
namespace Go.Proofs.Ytfcfejmammohpaa
open Go.RowKit
set_option maxRecDepth 100000
set_option linter.unusedVariables false
set_option linter.unusedSimpArgs false

set_option maxHeartbeats 16000000 in
theorem keep_any (ep : Nat) (A : Option Addr) (n c : Nat) (T : Nat → Kp) (N : Note) (A1 A2 : Option Addr) (c1 c2 : Nat) (code : Int) (A3 : Option Addr) (n3 c3 : Nat) (reply : List Nat) (w : World)
    (hF : FV w A n c T) (hN : EntV w N A1 A2 c1 c2) (hs : in64 N.step) (hep : ep < 4294967296) (hcode : in64 code) (hR : Bys w A3 n3 reply) (hR2 : n3 ≤ c3) (hR3 : c3 ≤ maxLen) (hR4 : A3 = none → c3 = 0) :
    Calls Try.prog 26 #[.agg #[.int .u32 (ep : Int), .slice A n c], .agg (evs N (.slice A1 N.key.length c1) (.slice A2 N.data.length c2)), .int .i64 code, .slice A3 n3 c3] w (FencePost w (keepE ep n T N code reply) (keepF ep n T N code reply)) := by
  have CA := Lib.hid (fun W (hb : Below w.heap.size w W) => ask_any ep A n c T N A1 A2 c1 c2 W (hF.below hb) (hN.below hb) hs hep)
  have BB := Lib.hid (below3 w (.cells #[.int .u32 (ep : Int), .slice A n c] 25) (.cells (evs N (.slice A1 N.key.length c1) (.slice A2 N.data.length c2)) 29) (.cells #[.int .u32 0, .slice none 0 0] 25))
  have LF := Lib.hid (((Lies.made w 25 #[.int .u32 (ep : Int), .slice A n c]).alloc (.cells (evs N (.slice A1 N.key.length c1) (.slice A2 N.data.length c2)) 29)).alloc (.cells #[.int .u32 0, .slice none 0 0] 25))
  have LN := Lib.hid ((Lies.made2 w (.cells #[.int .u32 (ep : Int), .slice A n c] 25) 29 (evs N (.slice A1 N.key.length c1) (.slice A2 N.data.length c2))).alloc (.cells #[.int .u32 0, .slice none 0 0] 25))
  have LR := Lib.hid (Lies.made3 w (.cells #[.int .u32 (ep : Int), .slice A n c] 25) (.cells (evs N (.slice A1 N.key.length c1) (.slice A2 N.data.length c2)) 29) 25 #[.int .u32 0, .slice none 0 0])
  have CM := Lib.hid (fun act W => mayAnswer_any act code W)
  have HKE : Hid (keepE ep n T N code reply = if (askS ep n T N).e ≠ 0 then (askS ep n T N).e else if mayB (askS ep n T N).act code = false ∨ 255 < reply.length then 2 else if (askS ep n T N).act = 2 then 81 else if n = 200 then 5 else 0) := Lib.hid rfl
  have HKF : Hid (∀ E, keepE ep n T N code reply = E → E ≠ 0 → keepF ep n T N code reply = fz) := Lib.hid (fun E h h0 => by unfold keepF; rw [if_neg (by rw [h]; exact h0)])
  by_cases he : (askS ep n T N).e = 0
  · rw [if_neg (by simpa using he)] at HKE
    obtain ⟨hok, hrq⟩ := ask_ok he
    have HOK := Lib.hid ((okB_iff n T).1 hok)
    have HSM := Lib.hid (req_small hrq)
    have CM2 := Lib.hid (CM.out (askS ep n T N).act)
    cases hm : mayB (askS ep n T N).act code
    · rw [if_pos (.inl hm)] at HKE
      rw [HKE.out, HKF.out 2 HKE.out (by decide)]
      rw [hm] at CM2
      unfold AskPost at CA
      rw [he] at CA
      unfold FencePost
      clear HKE HKF hm hok hrq HSM hN hs CM HOK
      generalize (askS ep n T N).k = ak at *
      generalize (askS ep n T N).act = aa at *
      obtain ⟨kd, e, ol, ls, tk, od, st, un, cd, ky, da⟩ := N
      dsimp only at *
      generalize ky.length = n1 at *
      generalize da.length = n2 at *
      go_enter Try.func26, Try.ntmps26
      go_wp2_with fail
      with_reducible refine (CA.out _ BB.out).mono ?_
      rintro x w1 ⟨y, rfl, hy, hb⟩
      have NY := Lib.hid hy
      clear hy
      obtain ⟨E1, d1, z1, -⟩ := NY.out.2.1.slice
      obtain ⟨E2, d2, z2, -⟩ := NY.out.2.2.slice
      have hyk := NY.out.1
      obtain ⟨yk, yK, yD⟩ := y
      dsimp only at *
      subst z1 z2 hyk
      obtain ⟨yo, ys, yu, ya, yc, yr⟩ := yk
      dsimp only at *
      obtain ⟨m1, hm1⟩ : ∃ m, ya.length = m := ⟨_, rfl⟩
      obtain ⟨m2, hm2⟩ : ∃ m, yr.length = m := ⟨_, rfl⟩
      rw [hm1, hm2]
      clear NY hm1 hm2
      have LF_1 := Lib.hid ((Lies.below LF.out hb LF.out.lt).alloc (.cells #[.int .u32 (yo : Int), .int .i64 ys, .bool yu, .slice E1 m1 d1, .int .i64 yc, .slice E2 m2 d2] 34))
      have LN_1 := Lib.hid ((Lies.below LN.out hb LN.out.lt).alloc (.cells #[.int .u32 (yo : Int), .int .i64 ys, .bool yu, .slice E1 m1 d1, .int .i64 yc, .slice E2 m2 d2] 34))
      have LR_1 := Lib.hid ((Lies.below LR.out hb LR.out.lt).alloc (.cells #[.int .u32 (yo : Int), .int .i64 ys, .bool yu, .slice E1 m1 d1, .int .i64 yc, .slice E2 m2 d2] 34))
      have BB_1 := Lib.hid ((BB.out.trans (hb.mono BB.out.size)).alloc (BB.out.trans (hb.mono BB.out.size)).size (.cells #[.int .u32 (yo : Int), .int .i64 ys, .bool yu, .slice E1 m1 d1, .int .i64 yc, .slice E2 m2 d2] 34))
      have LN1_1 := Lib.hid (Lies.made w1 34 #[.int .u32 (yo : Int), .int .i64 ys, .bool yu, .slice E1 m1 d1, .int .i64 yc, .slice E2 m2 d2])
      clear hb
      obtain ⟨c0_0, c0_1⟩ := LF_1.out.cells2
      obtain ⟨f0_0, f0_1⟩ := LF_1.out.free2
      obtain ⟨c1_0, c1_1, c1_2, c1_3, c1_4, c1_5, c1_6, c1_7, c1_8, c1_9, c1_10⟩ := LN_1.out.cells11
      obtain ⟨f1_0, f1_1, f1_2, f1_3, f1_4, f1_5, f1_6, f1_7, f1_8, f1_9, f1_10⟩ := LN_1.out.free11
      obtain ⟨c2_0, c2_1⟩ := LR_1.out.cells2
      obtain ⟨f2_0, f2_1⟩ := LR_1.out.free2
      obtain ⟨c3_0, c3_1, c3_2, c3_3, c3_4, c3_5⟩ := LN1_1.out.cells6
      obtain ⟨f3_0, f3_1, f3_2, f3_3, f3_4, f3_5⟩ := LN1_1.out.free6
      rw [show ((0 : Nat) : Int) = 0 from rfl]
      go_wp2_with fail
      with_reducible refine (CM2.out _).mono ?_
      rintro x w2 ⟨rfl, rfl⟩
      go_wp2
      exact ret_fence (w.heap.size + 1 + 1) 25 _ rfl rfl (LR_1.out.put2 _ _) rfl rfl ⟨_, fun _ => ⟨kz, .slice none 0 0, .slice none 0 0⟩, rfl, NF.nil _ _ _, (fun i hi => by omega), below_put2 BB_1.out (by omega) _ _⟩
    · rw [hm] at CM2
      have HL := Lib.hid hR.1
      by_cases hlen : 255 < reply.length
      · rw [if_pos (.inr hlen)] at HKE
        rw [HKE.out, HKF.out 2 HKE.out (by decide)]
        have d3 : decide ((255 : Int) < (n3 : Int)) = true := by rw [decide_eq_true_iff, ← HL.out]; omega
        have d3b : decide (255 < n3) = true := by rw [decide_eq_true_iff, ← HL.out]; omega
        unfold AskPost at CA
        rw [he] at CA
        unfold FencePost
        clear HKE HKF hm hok hrq HSM hN hs CM HOK hlen
        generalize (askS ep n T N).k = ak at *
        generalize (askS ep n T N).act = aa at *
        obtain ⟨kd, e, ol, ls, tk, od, st, un, cd, ky, da⟩ := N
        dsimp only at *
        generalize ky.length = n1 at *
        generalize da.length = n2 at *
        go_enter Try.func26, Try.ntmps26
        go_wp2_with fail
        with_reducible refine (CA.out _ BB.out).mono ?_
        rintro x w1 ⟨y, rfl, hy, hb⟩
        have NY := Lib.hid hy
        clear hy
        obtain ⟨E1, d1, z1, -⟩ := NY.out.2.1.slice
        obtain ⟨E2, d2, z2, -⟩ := NY.out.2.2.slice
        have hyk := NY.out.1
        obtain ⟨yk, yK, yD⟩ := y
        dsimp only at *
        subst z1 z2 hyk
        obtain ⟨yo, ys, yu, ya, yc, yr⟩ := yk
        dsimp only at *
        obtain ⟨m1, hm1⟩ : ∃ m, ya.length = m := ⟨_, rfl⟩
        obtain ⟨m2, hm2⟩ : ∃ m, yr.length = m := ⟨_, rfl⟩
        rw [hm1, hm2]
        clear NY hm1 hm2
        have LF_1 := Lib.hid ((Lies.below LF.out hb LF.out.lt).alloc (.cells #[.int .u32 (yo : Int), .int .i64 ys, .bool yu, .slice E1 m1 d1, .int .i64 yc, .slice E2 m2 d2] 34))
        have LN_1 := Lib.hid ((Lies.below LN.out hb LN.out.lt).alloc (.cells #[.int .u32 (yo : Int), .int .i64 ys, .bool yu, .slice E1 m1 d1, .int .i64 yc, .slice E2 m2 d2] 34))
        have LR_1 := Lib.hid ((Lies.below LR.out hb LR.out.lt).alloc (.cells #[.int .u32 (yo : Int), .int .i64 ys, .bool yu, .slice E1 m1 d1, .int .i64 yc, .slice E2 m2 d2] 34))
        have BB_1 := Lib.hid ((BB.out.trans (hb.mono BB.out.size)).alloc (BB.out.trans (hb.mono BB.out.size)).size (.cells #[.int .u32 (yo : Int), .int .i64 ys, .bool yu, .slice E1 m1 d1, .int .i64 yc, .slice E2 m2 d2] 34))
        have LN1_1 := Lib.hid (Lies.made w1 34 #[.int .u32 (yo : Int), .int .i64 ys, .bool yu, .slice E1 m1 d1, .int .i64 yc, .slice E2 m2 d2])
        clear hb
        obtain ⟨c0_0, c0_1⟩ := LF_1.out.cells2
        obtain ⟨f0_0, f0_1⟩ := LF_1.out.free2
        obtain ⟨c1_0, c1_1, c1_2, c1_3, c1_4, c1_5, c1_6, c1_7, c1_8, c1_9, c1_10⟩ := LN_1.out.cells11
        obtain ⟨f1_0, f1_1, f1_2, f1_3, f1_4, f1_5, f1_6, f1_7, f1_8, f1_9, f1_10⟩ := LN_1.out.free11
        obtain ⟨c2_0, c2_1⟩ := LR_1.out.cells2
        obtain ⟨f2_0, f2_1⟩ := LR_1.out.free2
        obtain ⟨c3_0, c3_1, c3_2, c3_3, c3_4, c3_5⟩ := LN1_1.out.cells6
        obtain ⟨f3_0, f3_1, f3_2, f3_3, f3_4, f3_5⟩ := LN1_1.out.free6
        rw [show ((0 : Nat) : Int) = 0 from rfl]
        go_wp2_with fail
        with_reducible refine (CM2.out _).mono ?_
        rintro x w2 ⟨rfl, rfl⟩
        go_wp2
        exact ret_fence (w.heap.size + 1 + 1) 25 _ rfl rfl (LR_1.out.put2 _ _) rfl rfl ⟨_, fun _ => ⟨kz, .slice none 0 0, .slice none 0 0⟩, rfl, NF.nil _ _ _, (fun i hi => by omega), below_put2 BB_1.out (by omega) _ _⟩
      · rw [if_neg (by rintro (h | h); rw [hm] at h; cases h; exact hlen h)] at HKE
        have d3 : decide ((255 : Int) < (n3 : Int)) = false := by rw [decide_eq_false_iff_not, ← HL.out]; omega
        have d3b : decide (255 < n3) = false := by rw [decide_eq_false_iff_not, ← HL.out]; omega
        by_cases ha : (askS ep n T N).act = 2
        · rw [if_pos ha] at HKE
          rw [HKE.out, HKF.out 81 HKE.out (by decide)]
          have d4 : (((askS ep n T N).act : Int) == 2) = true := by simp; omega
          unfold AskPost at CA
          rw [he] at CA
          unfold FencePost
          clear HKE HKF hm hok hrq HSM hN hs CM HOK hlen ha
          generalize (askS ep n T N).k = ak at *
          generalize (askS ep n T N).act = aa at *
          obtain ⟨kd, e, ol, ls, tk, od, st, un, cd, ky, da⟩ := N
          dsimp only at *
          generalize ky.length = n1 at *
          generalize da.length = n2 at *
          go_enter Try.func26, Try.ntmps26
          go_wp2_with fail
          with_reducible refine (CA.out _ BB.out).mono ?_
          rintro x w1 ⟨y, rfl, hy, hb⟩
          have NY := Lib.hid hy
          clear hy
          obtain ⟨E1, d1, z1, -⟩ := NY.out.2.1.slice
          obtain ⟨E2, d2, z2, -⟩ := NY.out.2.2.slice
          have hyk := NY.out.1
          obtain ⟨yk, yK, yD⟩ := y
          dsimp only at *
          subst z1 z2 hyk
          obtain ⟨yo, ys, yu, ya, yc, yr⟩ := yk
          dsimp only at *
          obtain ⟨m1, hm1⟩ : ∃ m, ya.length = m := ⟨_, rfl⟩
          obtain ⟨m2, hm2⟩ : ∃ m, yr.length = m := ⟨_, rfl⟩
          rw [hm1, hm2]
          clear NY hm1 hm2
          have LF_1 := Lib.hid ((Lies.below LF.out hb LF.out.lt).alloc (.cells #[.int .u32 (yo : Int), .int .i64 ys, .bool yu, .slice E1 m1 d1, .int .i64 yc, .slice E2 m2 d2] 34))
          have LN_1 := Lib.hid ((Lies.below LN.out hb LN.out.lt).alloc (.cells #[.int .u32 (yo : Int), .int .i64 ys, .bool yu, .slice E1 m1 d1, .int .i64 yc, .slice E2 m2 d2] 34))
          have LR_1 := Lib.hid ((Lies.below LR.out hb LR.out.lt).alloc (.cells #[.int .u32 (yo : Int), .int .i64 ys, .bool yu, .slice E1 m1 d1, .int .i64 yc, .slice E2 m2 d2] 34))
          have BB_1 := Lib.hid ((BB.out.trans (hb.mono BB.out.size)).alloc (BB.out.trans (hb.mono BB.out.size)).size (.cells #[.int .u32 (yo : Int), .int .i64 ys, .bool yu, .slice E1 m1 d1, .int .i64 yc, .slice E2 m2 d2] 34))
          have LN1_1 := Lib.hid (Lies.made w1 34 #[.int .u32 (yo : Int), .int .i64 ys, .bool yu, .slice E1 m1 d1, .int .i64 yc, .slice E2 m2 d2])
          clear hb
          obtain ⟨c0_0, c0_1⟩ := LF_1.out.cells2
          obtain ⟨f0_0, f0_1⟩ := LF_1.out.free2
          obtain ⟨c1_0, c1_1, c1_2, c1_3, c1_4, c1_5, c1_6, c1_7, c1_8, c1_9, c1_10⟩ := LN_1.out.cells11
          obtain ⟨f1_0, f1_1, f1_2, f1_3, f1_4, f1_5, f1_6, f1_7, f1_8, f1_9, f1_10⟩ := LN_1.out.free11
          obtain ⟨c2_0, c2_1⟩ := LR_1.out.cells2
          obtain ⟨f2_0, f2_1⟩ := LR_1.out.free2
          obtain ⟨c3_0, c3_1, c3_2, c3_3, c3_4, c3_5⟩ := LN1_1.out.cells6
          obtain ⟨f3_0, f3_1, f3_2, f3_3, f3_4, f3_5⟩ := LN1_1.out.free6
          rw [show ((0 : Nat) : Int) = 0 from rfl]
          go_wp2_with fail
          with_reducible refine (CM2.out _).mono ?_
          rintro x w2 ⟨rfl, rfl⟩
          go_wp2
          exact ret_fence (w.heap.size + 1 + 1) 25 _ rfl rfl (LR_1.out.put2 _ _) rfl rfl ⟨_, fun _ => ⟨kz, .slice none 0 0, .slice none 0 0⟩, rfl, NF.nil _ _ _, (fun i hi => by omega), below_put2 BB_1.out (by omega) _ _⟩
        · rw [if_neg ha] at HKE
          have d4 : (((askS ep n T N).act : Int) == 2) = false := by simp; omega
          by_cases h200 : n = 200
          · rw [if_pos h200] at HKE
            rw [HKE.out, HKF.out 5 HKE.out (by decide)]
            have d5 : ((n : Int) == 200) = true := by simp; omega
            have d5b : (n == 200) = true := by simpa using h200
            unfold AskPost at CA
            rw [he] at CA
            unfold FencePost
            clear HKE HKF hm hok hrq HSM hN hs CM HOK hlen ha h200
            generalize (askS ep n T N).k = ak at *
            generalize (askS ep n T N).act = aa at *
            obtain ⟨kd, e, ol, ls, tk, od, st, un, cd, ky, da⟩ := N
            dsimp only at *
            generalize ky.length = n1 at *
            generalize da.length = n2 at *
            go_enter Try.func26, Try.ntmps26
            go_wp2_with fail
            with_reducible refine (CA.out _ BB.out).mono ?_
            rintro x w1 ⟨y, rfl, hy, hb⟩
            have NY := Lib.hid hy
            clear hy
            obtain ⟨E1, d1, z1, -⟩ := NY.out.2.1.slice
            obtain ⟨E2, d2, z2, -⟩ := NY.out.2.2.slice
            have hyk := NY.out.1
            obtain ⟨yk, yK, yD⟩ := y
            dsimp only at *
            subst z1 z2 hyk
            obtain ⟨yo, ys, yu, ya, yc, yr⟩ := yk
            dsimp only at *
            obtain ⟨m1, hm1⟩ : ∃ m, ya.length = m := ⟨_, rfl⟩
            obtain ⟨m2, hm2⟩ : ∃ m, yr.length = m := ⟨_, rfl⟩
            rw [hm1, hm2]
            clear NY hm1 hm2
            have LF_1 := Lib.hid ((Lies.below LF.out hb LF.out.lt).alloc (.cells #[.int .u32 (yo : Int), .int .i64 ys, .bool yu, .slice E1 m1 d1, .int .i64 yc, .slice E2 m2 d2] 34))
            have LN_1 := Lib.hid ((Lies.below LN.out hb LN.out.lt).alloc (.cells #[.int .u32 (yo : Int), .int .i64 ys, .bool yu, .slice E1 m1 d1, .int .i64 yc, .slice E2 m2 d2] 34))
            have LR_1 := Lib.hid ((Lies.below LR.out hb LR.out.lt).alloc (.cells #[.int .u32 (yo : Int), .int .i64 ys, .bool yu, .slice E1 m1 d1, .int .i64 yc, .slice E2 m2 d2] 34))
            have BB_1 := Lib.hid ((BB.out.trans (hb.mono BB.out.size)).alloc (BB.out.trans (hb.mono BB.out.size)).size (.cells #[.int .u32 (yo : Int), .int .i64 ys, .bool yu, .slice E1 m1 d1, .int .i64 yc, .slice E2 m2 d2] 34))
            have LN1_1 := Lib.hid (Lies.made w1 34 #[.int .u32 (yo : Int), .int .i64 ys, .bool yu, .slice E1 m1 d1, .int .i64 yc, .slice E2 m2 d2])
            clear hb
            obtain ⟨c0_0, c0_1⟩ := LF_1.out.cells2
            obtain ⟨f0_0, f0_1⟩ := LF_1.out.free2
            obtain ⟨c1_0, c1_1, c1_2, c1_3, c1_4, c1_5, c1_6, c1_7, c1_8, c1_9, c1_10⟩ := LN_1.out.cells11
            obtain ⟨f1_0, f1_1, f1_2, f1_3, f1_4, f1_5, f1_6, f1_7, f1_8, f1_9, f1_10⟩ := LN_1.out.free11
            obtain ⟨c2_0, c2_1⟩ := LR_1.out.cells2
            obtain ⟨f2_0, f2_1⟩ := LR_1.out.free2
            obtain ⟨c3_0, c3_1, c3_2, c3_3, c3_4, c3_5⟩ := LN1_1.out.cells6
            obtain ⟨f3_0, f3_1, f3_2, f3_3, f3_4, f3_5⟩ := LN1_1.out.free6
            rw [show ((0 : Nat) : Int) = 0 from rfl]
            go_wp2_with fail
            with_reducible refine (CM2.out _).mono ?_
            rintro x w2 ⟨rfl, rfl⟩
            go_wp2
            exact ret_fence (w.heap.size + 1 + 1) 25 _ rfl rfl (LR_1.out.put2 _ _) rfl rfl ⟨_, fun _ => ⟨kz, .slice none 0 0, .slice none 0 0⟩, rfl, NF.nil _ _ _, (fun i hi => by omega), below_put2 BB_1.out (by omega) _ _⟩
          · rw [if_neg h200] at HKE
            have d5 : ((n : Int) == 200) = false := by simp; omega
            have d5b : (n == 200) = false := by simpa using h200
            have HKF2 : Hid (keepF ep n T N code reply = ⟨N.epoch, n + 1, ins (pos T (nk N) n) (newK N code reply) T⟩) := Lib.hid (by unfold keepF; rw [if_pos HKE.out])
            rw [HKE.out, HKF2.out]
            have CS := Lib.hid (fun W (h : FV W A n c T) => search_any A n c T N.order N.step N.undo W h HOK.out hs)
            unfold BsPost at CS
            have hple := pos_le T (nk N) n
            unfold AskPost at CA
            rw [he] at CA
            unfold FencePost
            have HF := Lib.hid (hF.below BB.out)
            have HD := Lib.hid (hN.d.below BB.out)
            have HR := Lib.hid (hR.below BB.out)
            obtain ⟨hnc, hcm, hAc, X, hK, hX⟩ := hF
            have HVX : Hid (∀ i, i < n → (X i).k.a.length ≤ 100000 ∧ (X i).k.r.length ≤ 100000) := Lib.hid (fun i hi => by
              have h1 := KT.lens (x := X i) (by rw [hX i hi]; exact (HOK.out.2 i hi).1)
              omega)
            have CC := Lib.hid (fun W (hb : Below w.heap.size w W) => cloneAll_any A n c X W (hK.below hb) hnc hAc (by have := HOK.out.1; omega) HVX.out)
            have CK := Lib.hid (fun W (x : Kx) (h1 : KT W x) (h2 : x.k.a.length ≤ 100000) (h3 : x.k.r.length ≤ 100000) => clone_any x W h1 h2 h3)
            have HX := Lib.hid hX
            have hn2 := HOK.out.1
            have HNB := Lib.hid hN.b
            have HNC := Lib.hid (And.intro hN.dc (And.intro hN.dm hN.da))
            have hsm1 := HSM.out.1
            have HIK := Lib.hid (fun (Y : Nat → Kx) (y : Kx) (hy : ∀ i, i < n → (Y i).k = (X i).k) (hyk : y.k = newK N code reply) (i : Nat) (hi : i < n + 1) => (show (insX (pos T (nk N) n) y Y i).k = ins (pos T (nk N) n) (newK N code reply) T i from by
              rw [insX_k, hyk]
              unfold ins
              dsimp only
              by_cases q : i < pos T (nk N) n
              · rw [if_pos q, if_pos q, hy i (by omega), HX.out i (by omega)]
              · rw [if_neg q, if_neg q]
                by_cases q2 : i = pos T (nk N) n
                · rw [if_pos q2, if_pos q2]
                · rw [if_neg q2, if_neg q2, hy (i - 1) (by omega), HX.out (i - 1) (by omega)]))
            clear HKE HKF HKF2 hm hok hrq HSM hN CM hlen ha h200 hK hX hAc hR HVX
            generalize ins (pos T (nk N) n) (newK N code reply) T = TT at *
            generalize pos T (nk N) n = m at *
            generalize has n T (nk N) = fnd at *
            generalize (askS ep n T N).k = ak at *
            generalize (askS ep n T N).act = aa at *
            have HST := Lib.hid hs
            have HCO := Lib.hid hcode
            have HLR : Hid (reply.length ≤ 100000) := Lib.hid (by
              have h3 : decide (255 < n3) = false := d3b
              rw [decide_eq_false_iff_not] at h3
              rw [HL.out]; omega)
            obtain ⟨kd, e, ol, ls, tk, od, st, un, cd, ky, da⟩ := N
            dsimp only at *
            obtain ⟨n1, hn1⟩ : ∃ q, ky.length = q := ⟨_, rfl⟩
            obtain ⟨n2, hnn2⟩ : ∃ q, da.length = q := ⟨_, rfl⟩
            have HN2 := Lib.hid hnn2
            rw [hn1, hnn2]
            rw [hn1, hnn2] at CA LF LN LR BB HF HD HR
            rw [hnn2] at hsm1 HNC
            clear hs hcode hn1 hnn2
            go_enter Try.func26, Try.ntmps26
            go_wp2_with fail
            with_reducible refine (CA.out _ BB.out).mono ?_
            rintro x w1 ⟨y, rfl, hy, hb⟩
            have NY := Lib.hid hy
            clear hy
            obtain ⟨E1, d1, z1, -⟩ := NY.out.2.1.slice
            obtain ⟨E2, d2, z2, -⟩ := NY.out.2.2.slice
            have hyk := NY.out.1
            obtain ⟨yk, yK, yD⟩ := y
            dsimp only at *
            subst z1 z2 hyk
            obtain ⟨yo, ys, yu, ya, yc, yr⟩ := yk
            dsimp only at *
            obtain ⟨m1, hm1⟩ : ∃ m, ya.length = m := ⟨_, rfl⟩
            obtain ⟨m2, hm2⟩ : ∃ m, yr.length = m := ⟨_, rfl⟩
            rw [hm1, hm2]
            clear NY hm1 hm2
            have LF_1 := Lib.hid ((Lies.below LF.out hb LF.out.lt).alloc (.cells #[.int .u32 (yo : Int), .int .i64 ys, .bool yu, .slice E1 m1 d1, .int .i64 yc, .slice E2 m2 d2] 34))
            have LN_1 := Lib.hid ((Lies.below LN.out hb LN.out.lt).alloc (.cells #[.int .u32 (yo : Int), .int .i64 ys, .bool yu, .slice E1 m1 d1, .int .i64 yc, .slice E2 m2 d2] 34))
            have LR_1 := Lib.hid ((Lies.below LR.out hb LR.out.lt).alloc (.cells #[.int .u32 (yo : Int), .int .i64 ys, .bool yu, .slice E1 m1 d1, .int .i64 yc, .slice E2 m2 d2] 34))
            have BB_1 := Lib.hid ((BB.out.trans (hb.mono BB.out.size)).alloc (BB.out.trans (hb.mono BB.out.size)).size (.cells #[.int .u32 (yo : Int), .int .i64 ys, .bool yu, .slice E1 m1 d1, .int .i64 yc, .slice E2 m2 d2] 34))
            have HF_1 := Lib.hid ((HF.out.below hb).below (below1 _ (.cells #[.int .u32 (yo : Int), .int .i64 ys, .bool yu, .slice E1 m1 d1, .int .i64 yc, .slice E2 m2 d2] 34)))
            have HD_1 := Lib.hid ((HD.out.belowD hb).below (below1 _ (.cells #[.int .u32 (yo : Int), .int .i64 ys, .bool yu, .slice E1 m1 d1, .int .i64 yc, .slice E2 m2 d2] 34)))
            have HR_1 := Lib.hid ((HR.out.belowD hb).below (below1 _ (.cells #[.int .u32 (yo : Int), .int .i64 ys, .bool yu, .slice E1 m1 d1, .int .i64 yc, .slice E2 m2 d2] 34)))
            have LN1_1 := Lib.hid (Lies.made w1 34 #[.int .u32 (yo : Int), .int .i64 ys, .bool yu, .slice E1 m1 d1, .int .i64 yc, .slice E2 m2 d2])
            clear hb
            obtain ⟨c0_0, c0_1⟩ := LF_1.out.cells2
            obtain ⟨f0_0, f0_1⟩ := LF_1.out.free2
            obtain ⟨c1_0, c1_1, c1_2, c1_3, c1_4, c1_5, c1_6, c1_7, c1_8, c1_9, c1_10⟩ := LN_1.out.cells11
            obtain ⟨f1_0, f1_1, f1_2, f1_3, f1_4, f1_5, f1_6, f1_7, f1_8, f1_9, f1_10⟩ := LN_1.out.free11
            obtain ⟨c2_0, c2_1⟩ := LR_1.out.cells2
            obtain ⟨f2_0, f2_1⟩ := LR_1.out.free2
            obtain ⟨c3_0, c3_1, c3_2, c3_3, c3_4, c3_5⟩ := LN1_1.out.cells6
            obtain ⟨f3_0, f3_1, f3_2, f3_3, f3_4, f3_5⟩ := LN1_1.out.free6
            rw [show ((0 : Nat) : Int) = 0 from rfl]
            go_wp2_with fail
            with_reducible refine (CM2.out _).mono ?_
            rintro x w2 ⟨rfl, rfl⟩
            go_wp2_with fail
            with_reducible refine (CS.out _ HF_1.out).mono ?_
            rintro x w3 ⟨rfl, hb⟩
            have LF_3 := Lib.hid ((Lies.below LF_1.out hb LF_1.out.lt))
            have LN_3 := Lib.hid ((Lies.below LN_1.out hb LN_1.out.lt))
            have LR_3 := Lib.hid ((Lies.below LR_1.out hb LR_1.out.lt))
            have LN1_3 := Lib.hid ((Lies.below LN1_1.out hb LN1_1.out.lt))
            have BB_3 := Lib.hid (BB_1.out.trans (hb.mono BB_1.out.size))
            have HF_3 := Lib.hid ((HF_1.out.below hb))
            have HD_3 := Lib.hid ((HD_1.out.belowD hb))
            have HR_3 := Lib.hid ((HR_1.out.belowD hb))
            clear hb
            have LF3 := Lib.hid (LF_3.out.alloc (.cells #[.int .u32 (od : Nat), .int .i64 st, .bool un, .slice A2 n2 c2, .int .i64 code, .slice A3 n3 c3] 34))
            have LN3 := Lib.hid (LN_3.out.alloc (.cells #[.int .u32 (od : Nat), .int .i64 st, .bool un, .slice A2 n2 c2, .int .i64 code, .slice A3 n3 c3] 34))
            have LR3 := Lib.hid (LR_3.out.alloc (.cells #[.int .u32 (od : Nat), .int .i64 st, .bool un, .slice A2 n2 c2, .int .i64 code, .slice A3 n3 c3] 34))
            have LK3 := Lib.hid (Lies.made w3 34 #[.int .u32 (od : Nat), .int .i64 st, .bool un, .slice A2 n2 c2, .int .i64 code, .slice A3 n3 c3])
            have BB3 := Lib.hid (BB_3.out.alloc BB_3.out.size (.cells #[.int .u32 (od : Nat), .int .i64 st, .bool un, .slice A2 n2 c2, .int .i64 code, .slice A3 n3 c3] 34))
            have HD3 := Lib.hid (HD_3.out.alloc (.cells #[.int .u32 (od : Nat), .int .i64 st, .bool un, .slice A2 n2 c2, .int .i64 code, .slice A3 n3 c3] 34))
            have HR3 := Lib.hid (HR_3.out.alloc (.cells #[.int .u32 (od : Nat), .int .i64 st, .bool un, .slice A2 n2 c2, .int .i64 code, .slice A3 n3 c3] 34))
            have e3 : w.heap.size + 1 + 1 < w3.heap.size := LR_3.out.lt
            clear c0_0 c0_1 f0_0 f0_1 c1_0 c1_1 c1_2 c1_3 c1_4 c1_5 c1_6 c1_7 c1_8 c1_9 c1_10 f1_0 f1_1 f1_2 f1_3 f1_4 f1_5 f1_6 f1_7 f1_8 f1_9 f1_10 c2_0 c2_1 f2_0 f2_1 c3_0 c3_1 c3_2 c3_3 c3_4 c3_5 f3_0 f3_1 f3_2 f3_3 f3_4 f3_5
            obtain ⟨c0_0, c0_1⟩ := LF3.out.cells2
            obtain ⟨f0_0, f0_1⟩ := LF3.out.free2
            obtain ⟨c1_0, c1_1, c1_2, c1_3, c1_4, c1_5, c1_6, c1_7, c1_8, c1_9, c1_10⟩ := LN3.out.cells11
            obtain ⟨f1_0, f1_1, f1_2, f1_3, f1_4, f1_5, f1_6, f1_7, f1_8, f1_9, f1_10⟩ := LN3.out.free11
            obtain ⟨c2_0, c2_1⟩ := LR3.out.cells2
            obtain ⟨f2_0, f2_1⟩ := LR3.out.free2
            obtain ⟨c3_0, c3_1, c3_2, c3_3, c3_4, c3_5⟩ := LK3.out.cells6
            obtain ⟨f3_0, f3_1, f3_2, f3_3, f3_4, f3_5⟩ := LK3.out.free6
            obtain ⟨a0, a1⟩ := LF_3.out.cells2
            obtain ⟨b0, b1, b2, b3, b4, b5, b6, b7, b8, b9, b10⟩ := LN_3.out.cells11
            go_wp2_with fail
            clear a0 a1 b0 b1 b2 b3 b4 b5 b6 b7 b8 b9 b10
            go_region_held3 (fun W => W.cell? ⟨w.heap.size, 1, none⟩ = some (.slice A n c) ∧ W.cell? ⟨w.heap.size + 1, 1, none⟩ = some (.int .u32 (e : Nat)) ∧ W.cell? ⟨w3.heap.size, 0, none⟩ = some (.int .u32 (od : Nat)) ∧ W.cell? ⟨w3.heap.size, 1, none⟩ = some (.int .i64 st) ∧ W.cell? ⟨w3.heap.size, 2, none⟩ = some (.bool un) ∧ W.cell? ⟨w3.heap.size, 3, none⟩ = some (.slice A2 n2 c2) ∧ W.cell? ⟨w3.heap.size, 4, none⟩ = some (.int .i64 code) ∧ W.cell? ⟨w3.heap.size, 5, none⟩ = some (.slice A3 n3 c3)) (first | (obtain ⟨u0, u1⟩ := (((Lies.other LF6.out (a := ⟨w.heap.size + 1 + 1, 0, none⟩) (by dsimp only; omega) (.int .u32 (e : Nat))).other (a := ⟨w.heap.size + 1 + 1, 1, none⟩) (by dsimp only; omega) (.slice A6 (n + 1) c6))).cells2; obtain ⟨v0, v1, v2, v3, v4, v5, v6, v7, v8, v9, v10⟩ := (((Lies.other LN6.out (a := ⟨w.heap.size + 1 + 1, 0, none⟩) (by dsimp only; omega) (.int .u32 (e : Nat))).other (a := ⟨w.heap.size + 1 + 1, 1, none⟩) (by dsimp only; omega) (.slice A6 (n + 1) c6))).cells11; obtain ⟨t0, t1, t2, t3, t4, t5⟩ := (((Lies.other LK6.out (a := ⟨w.heap.size + 1 + 1, 0, none⟩) (by dsimp only; omega) (.int .u32 (e : Nat))).other (a := ⟨w.heap.size + 1 + 1, 1, none⟩) (by dsimp only; omega) (.slice A6 (n + 1) c6))).cells6; exact ⟨u1, v1, t0, t1, t2, t3, t4, t5⟩) | (obtain ⟨u0, u1⟩ := LF6.out.cells2; obtain ⟨v0, v1, v2, v3, v4, v5, v6, v7, v8, v9, v10⟩ := LN6.out.cells11; obtain ⟨t0, t1, t2, t3, t4, t5⟩ := LK6.out.cells6; exact ⟨u1, v1, t0, t1, t2, t3, t4, t5⟩) | (obtain ⟨u0, u1⟩ := LF5.out.cells2; obtain ⟨v0, v1, v2, v3, v4, v5, v6, v7, v8, v9, v10⟩ := LN5.out.cells11; obtain ⟨t0, t1, t2, t3, t4, t5⟩ := LK5.out.cells6; exact ⟨u1, v1, t0, t1, t2, t3, t4, t5⟩) | (obtain ⟨u0, u1⟩ := LF4.out.cells2; obtain ⟨v0, v1, v2, v3, v4, v5, v6, v7, v8, v9, v10⟩ := LN4.out.cells11; obtain ⟨t0, t1, t2, t3, t4, t5⟩ := LK4.out.cells6; exact ⟨u1, v1, t0, t1, t2, t3, t4, t5⟩) | go_keep)
              (first
              | (go_at_call 44; (with_reducible refine (CC.out _ BB3.out.drew).mono ?_); (rintro x w4 ⟨v, Y, rfl, hnf, hyk, hb⟩); (have NF4 := Lib.hid hnf); (have HYK := Lib.hid hyk); (have LF4 := Lib.hid (Lies.below (Lies.drew LF3.out) hb (Lies.lt LF3.out))); (have LN4 := Lib.hid (Lies.below (Lies.drew LN3.out) hb (Lies.lt LN3.out))); (have LR4 := Lib.hid (Lies.below (Lies.drew LR3.out) hb (Lies.lt LR3.out))); (have LK4 := Lib.hid (Lies.below (Lies.drew LK3.out) hb (Lies.lt LK3.out))); (have BB4 := Lib.hid (BB3.out.drew.trans (hb.mono BB3.out.size))); (have HD4 := Lib.hid ((HD3.out.drew).below hb)); (have HR4 := Lib.hid ((HR3.out.drew).below hb)); (have BLE4 := Lib.hid hb.size); (clear hnf hyk hb))
              | (go_at_call 43; (have CK4 := Lib.hid (CK.out w4 ⟨⟨od, st, un, da, code, reply⟩, .slice A2 n2 c2, .slice A3 n3 c3⟩ ⟨⟨A2, c2, by rw [HN2.out], by rw [HN2.out]; exact HD4.out, by rw [HN2.out]; exact HNC.out.1, HNC.out.2.1, HNC.out.2.2⟩, ⟨A3, c3, by rw [HL.out], by rw [HL.out]; exact HR4.out, by rw [HL.out]; exact hR2, hR3, hR4⟩, HNB.out.order, HST.out, HCO.out⟩ (by have := HN2.out; dsimp only; omega) HLR.out)); (with_reducible refine CK4.out.mono ?_); (rintro x w5 ⟨y2, rfl, hy2, hb⟩); (have NY5 := Lib.hid hy2); (obtain ⟨F1, g1, z1, -⟩ := hy2.2.1.slice); (obtain ⟨F2, g2, z2, -⟩ := hy2.2.2.slice); (have hyk2 := hy2.1); (clear hy2); (obtain ⟨yk2, yK2, yD2⟩ := y2); (dsimp only at *); (subst z1 z2 hyk2); (try dsimp only at *); (have LF5 := Lib.hid (Lies.below (LF4.out) hb (Lies.lt LF4.out))); (have LN5 := Lib.hid (Lies.below (LN4.out) hb (Lies.lt LN4.out))); (have LR5 := Lib.hid (Lies.below (LR4.out) hb (Lies.lt LR4.out))); (have LK5 := Lib.hid (Lies.below (LK4.out) hb (Lies.lt LK4.out))); (have BB5 := Lib.hid (BB4.out.trans (hb.mono BB4.out.size))); (have NF5 := Lib.hid (NF4.out.below hb)); (have HB45 := Lib.hid hb); (clear hb))
              | (go_at_call 50; (have LK6a := Lib.hid (LK5.out.alloc (.cells #[.int .u32 (od : Nat), .int .i64 st, .bool un, .slice F1 da.length g1, .int .i64 code, .slice F2 reply.length g2] 34))); (have LG := Lib.hid (Lies.made w5 34 #[.int .u32 (od : Nat), .int .i64 st, .bool un, .slice F1 da.length g1, .int .i64 code, .slice F2 reply.length g2])); (have NF6a := Lib.hid (NF5.out.below (below1 w5 (.cells #[.int .u32 (od : Nat), .int .i64 st, .bool un, .slice F1 da.length g1, .int .i64 code, .slice F2 reply.length g2] 34)))); (have CI := Lib.hid (insert_any (w3.alloc (.cells #[.int .u32 (od : Nat), .int .i64 st, .bool un, .slice A2 n2 c2, .int .i64 code, .slice A3 n3 c3] 34)).heap.size w5.heap.size n m v Y ⟨⟨od, st, un, da, code, reply⟩, .slice F1 da.length g1, .slice F2 reply.length g2⟩ (w5.alloc (.cells #[.int .u32 (od : Nat), .int .i64 st, .bool un, .slice F1 da.length g1, .int .i64 code, .slice F2 reply.length g2] 34)) NF6a.out.row (fun i hi => (NF6a.out.kt i hi).one) ⟨(NY5.out.2.1.alloc _).reads, (NY5.out.2.2.alloc _).reads, HNB.out.order, HST.out, HCO.out⟩ LG.out (fun q => by have := NF5.out.row.blockLt _ q; omega) hple (by omega) (Nat.le_trans (Nat.le_trans BLE4.out HB45.out.size) (by simp)))); (with_reducible refine CI.out.mono ?_); (rintro x w6 ⟨v6, rfl, ho6, hg6⟩); (obtain ⟨A6, c6, z6, -⟩ := ho6.slice); (subst z6); (have HO6 := Lib.hid ho6); (have HG6 := Lib.hid hg6); (have LF6 := Lib.hid (Lies.grownK (LF5.out.alloc (.cells #[.int .u32 (od : Nat), .int .i64 st, .bool un, .slice F1 da.length g1, .int .i64 code, .slice F2 reply.length g2] 34)) NF6a.out.row hg6 (by have := LF3.out.lt; exact this))); (have LN6 := Lib.hid (Lies.grownK (LN5.out.alloc (.cells #[.int .u32 (od : Nat), .int .i64 st, .bool un, .slice F1 da.length g1, .int .i64 code, .slice F2 reply.length g2] 34)) NF6a.out.row hg6 (by have := LN3.out.lt; exact this))); (have LR6 := Lib.hid (Lies.grownK (LR5.out.alloc (.cells #[.int .u32 (od : Nat), .int .i64 st, .bool un, .slice F1 da.length g1, .int .i64 code, .slice F2 reply.length g2] 34)) NF6a.out.row hg6 (by have := LR3.out.lt; exact this))); (have LK6 := Lib.hid (Lies.grownK (LK5.out.alloc (.cells #[.int .u32 (od : Nat), .int .i64 st, .bool un, .slice F1 da.length g1, .int .i64 code, .slice F2 reply.length g2] 34)) NF6a.out.row hg6 (by have := LK3.out.lt; exact this))); (have BB6 := Lib.hid (OwnK.grows NF6a.out.row hg6 (BB5.out.alloc BB5.out.size (.cells #[.int .u32 (od : Nat), .int .i64 st, .bool un, .slice F1 da.length g1, .int .i64 code, .slice F2 reply.length g2] 34)) BB3.out.size (BB5.out.alloc BB5.out.size (.cells #[.int .u32 (od : Nat), .int .i64 st, .bool un, .slice F1 da.length g1, .int .i64 code, .slice F2 reply.length g2] 34)).size)); (clear ho6 hg6); (obtain ⟨r0, r1⟩ := LR6.out.cells2); (obtain ⟨rf0, rf1⟩ := LR6.out.free2)))
            go_wp2
            refine ret_fence (w.heap.size + 1 + 1) 25 _ rfl rfl (LR6.out.put2 _ _) rfl rfl ⟨_, insX m ⟨⟨od, st, un, da, code, reply⟩, .slice F1 da.length g1, .slice F2 reply.length g2⟩ Y, rfl, ?_, HIK.out Y _ HYK.out rfl, below_put2 BB6.out (by omega) _ _⟩
            have HOK2 : ∀ (u : Value) (l : List Nat), Own w5 w.heap.size u l → Own (put2 w6 (w.heap.size + 1 + 1) (.int .u32 (e : Nat)) (.slice A6 (n + 1) c6)) w.heap.size u l := fun u l h => ((((h.alloc (.cells #[.int .u32 (od : Nat), .int .i64 st, .bool un, .slice F1 da.length g1, .int .i64 code, .slice F2 reply.length g2] 34)).grownK NF6a.out.row HG6.out).lies_put LR6.out (by decide) 0 _).lies_put (LR6.out.put 0 _) (by decide) 1 _)
            have HBW := BB3.out.size
            have HBW4 := BB4.out.size
            refine NF.insert hple ((HO6.out.same (fun k hk => (heap_setCell_other _ ⟨w.heap.size + 1 + 1, 1, none⟩ k _ (fun q => HO6.out.ne LR6.out (by decide) (by rw [hk, q]))).trans (heap_setCell_other _ ⟨w.heap.size + 1 + 1, 0, none⟩ k _ (fun q => HO6.out.ne LR6.out (by decide) (by rw [hk, q]))))).mono HBW) (fun i hi => HOK2 _ _ ((NF5.out.a i hi).mono HBW)) (fun i hi => HOK2 _ _ ((NF5.out.r i hi).mono HBW)) NF5.out.b NF5.out.da NF5.out.dr (HOK2 _ _ (NY5.out.2.1.mono HBW4)) (HOK2 _ _ (NY5.out.2.2.mono HBW4)) ⟨HNB.out.order, HST.out, HCO.out⟩ (fun i hi => fresh_ne (NF4.out.a i hi) NY5.out.2.1) (fun i hi => fresh_ne (NF4.out.r i hi) NY5.out.2.2)
  · rw [if_pos he] at HKE
    rw [HKE.out, HKF.out _ HKE.out he]
    unfold AskPost at CA
    have dz : (((askS ep n T N).e : Int) != 0) = true := by simp; omega
    clear HKE HKF hN hs CM he
    generalize (askS ep n T N).k = ak at *
    generalize (askS ep n T N).act = aa at *
    generalize (askS ep n T N).e = ae at *
    obtain ⟨kd, e, ol, ls, tk, od, st, un, cd, ky, da⟩ := N
    dsimp only at *
    generalize ky.length = n1 at *
    generalize da.length = n2 at *
    go_enter Try.func26, Try.ntmps26
    go_wp2_with fail
    with_reducible refine (CA.out _ BB.out).mono ?_
    rintro x w1 ⟨y, rfl, hy, hb⟩
    have NY := Lib.hid hy
    clear hy
    obtain ⟨E1, d1, z1, -⟩ := NY.out.2.1.slice
    obtain ⟨E2, d2, z2, -⟩ := NY.out.2.2.slice
    have hyk := NY.out.1
    obtain ⟨yk, yK, yD⟩ := y
    dsimp only at *
    subst z1 z2 hyk
    obtain ⟨yo, ys, yu, ya, yc, yr⟩ := yk
    dsimp only at *
    obtain ⟨m1, hm1⟩ : ∃ m, ya.length = m := ⟨_, rfl⟩
    obtain ⟨m2, hm2⟩ : ∃ m, yr.length = m := ⟨_, rfl⟩
    rw [hm1, hm2]
    clear NY hm1 hm2
    have LF_1 := Lib.hid ((Lies.below LF.out hb LF.out.lt).alloc (.cells #[.int .u32 (yo : Int), .int .i64 ys, .bool yu, .slice E1 m1 d1, .int .i64 yc, .slice E2 m2 d2] 34))
    have LN_1 := Lib.hid ((Lies.below LN.out hb LN.out.lt).alloc (.cells #[.int .u32 (yo : Int), .int .i64 ys, .bool yu, .slice E1 m1 d1, .int .i64 yc, .slice E2 m2 d2] 34))
    have LR_1 := Lib.hid ((Lies.below LR.out hb LR.out.lt).alloc (.cells #[.int .u32 (yo : Int), .int .i64 ys, .bool yu, .slice E1 m1 d1, .int .i64 yc, .slice E2 m2 d2] 34))
    have BB_1 := Lib.hid ((BB.out.trans (hb.mono BB.out.size)).alloc (BB.out.trans (hb.mono BB.out.size)).size (.cells #[.int .u32 (yo : Int), .int .i64 ys, .bool yu, .slice E1 m1 d1, .int .i64 yc, .slice E2 m2 d2] 34))
    have LN1_1 := Lib.hid (Lies.made w1 34 #[.int .u32 (yo : Int), .int .i64 ys, .bool yu, .slice E1 m1 d1, .int .i64 yc, .slice E2 m2 d2])
    clear hb
    obtain ⟨c0_0, c0_1⟩ := LF_1.out.cells2
    obtain ⟨f0_0, f0_1⟩ := LF_1.out.free2
    obtain ⟨c1_0, c1_1, c1_2, c1_3, c1_4, c1_5, c1_6, c1_7, c1_8, c1_9, c1_10⟩ := LN_1.out.cells11
    obtain ⟨f1_0, f1_1, f1_2, f1_3, f1_4, f1_5, f1_6, f1_7, f1_8, f1_9, f1_10⟩ := LN_1.out.free11
    obtain ⟨c2_0, c2_1⟩ := LR_1.out.cells2
    obtain ⟨f2_0, f2_1⟩ := LR_1.out.free2
    obtain ⟨c3_0, c3_1, c3_2, c3_3, c3_4, c3_5⟩ := LN1_1.out.cells6
    obtain ⟨f3_0, f3_1, f3_2, f3_3, f3_4, f3_5⟩ := LN1_1.out.free6
    go_wp2
    refine ret_fence (w.heap.size + 1 + 1) 25 _ rfl rfl (LR_1.out.put2 _ _) rfl rfl ?_
    have hbz := below_put2 BB_1.out (show w.heap.size ≤ w.heap.size + 1 + 1 by omega) (.int .u32 0) (.slice none 0 0)
    exact ⟨_, fun _ => ⟨kz, .slice none 0 0, .slice none 0 0⟩, rfl, NF.nil _ _ _, (fun i hi => absurd hi (Nat.not_lt_zero i)), hbz⟩

end Go.Proofs.Ytfcfejmammohpaa
