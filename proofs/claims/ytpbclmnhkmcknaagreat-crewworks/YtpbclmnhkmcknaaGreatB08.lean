/-
  Texts of one proof, in their order: FeKeep, FeSee, StLayS, StMapM.
-/
import Derived.Deep.RegionHeld3
import Derived.Shelf.SlSortCmp.NoneTotal
import Derived.Sort.KeysCollected
import Derived.Test.YtpbclmnhkmcknaaGreatB07
namespace Go.Proofs.YtpbclmnhkmcknaaGreat.Fe
open Go.RowKit
set_option maxRecDepth 100000
set_option linter.unusedVariables false
set_option linter.unusedSimpArgs false

set_option maxHeartbeats 16000000 in
theorem keep_any (ep : Nat) (A : Option Addr) (n c : Nat) (T : Nat → Kp) (N : Note) (A1 A2 : Option Addr) (c1 c2 : Nat) (code : Int) (A3 : Option Addr) (n3 c3 : Nat) (reply : List Nat) (w : World)
    (hF : FV w A n c T) (hN : EntV w N A1 A2 c1 c2) (hs : in64 N.step) (hep : ep < 4294967296) (hcode : in64 code) (hR : Bys w A3 n3 reply) (hR2 : n3 ≤ c3) (hR3 : c3 ≤ maxLen) (hR4 : A3 = none → c3 = 0) :
    Calls Tryz.prog 67 #[.agg #[.int .u32 (ep : Int), .slice A n c], .agg (evs N (.slice A1 N.key.length c1) (.slice A2 N.data.length c2)), .int .i64 code, .slice A3 n3 c3] w (FencePost w (keepE ep n T N code reply) (keepF ep n T N code reply)) := by
  have CA := Lib.hid (fun W (hb : Below w.heap.size w W) => ask_any ep A n c T N A1 A2 c1 c2 W (hF.below hb) (hN.below hb) hs hep)
  have BB := Lib.hid (below3 w (.cells #[.int .u32 (ep : Int), .slice A n c] 64) (.cells (evs N (.slice A1 N.key.length c1) (.slice A2 N.data.length c2)) 55) (.cells #[.int .u32 0, .slice none 0 0] 64))
  have LF := Lib.hid (((Lies.made w 64 #[.int .u32 (ep : Int), .slice A n c]).alloc (.cells (evs N (.slice A1 N.key.length c1) (.slice A2 N.data.length c2)) 55)).alloc (.cells #[.int .u32 0, .slice none 0 0] 64))
  have LN := Lib.hid ((Lies.made2 w (.cells #[.int .u32 (ep : Int), .slice A n c] 64) 55 (evs N (.slice A1 N.key.length c1) (.slice A2 N.data.length c2))).alloc (.cells #[.int .u32 0, .slice none 0 0] 64))
  have LR := Lib.hid (Lies.made3 w (.cells #[.int .u32 (ep : Int), .slice A n c] 64) (.cells (evs N (.slice A1 N.key.length c1) (.slice A2 N.data.length c2)) 55) 64 #[.int .u32 0, .slice none 0 0])
  have CM := Lib.hid (fun act W => mayAnswer_any act code W)
  have HKE : Hid (keepE ep n T N code reply = if (askS ep n T N).e ≠ 0 then (askS ep n T N).e else if mayB (askS ep n T N).act code = false ∨ 255 < reply.length then 2 else if (askS ep n T N).act = 2 then 81 else if n = 200 then 5 else 0) := Lib.hid rfl
  have HKF : Hid (∀ E, keepE ep n T N code reply = E → E ≠ 0 → keepF ep n T N code reply = fz) := Lib.hid (fun E h h0 => by unfold keepF; rw [if_neg (by rw [h]; exact h0)])
  by_cases he : (askS ep n T N).e = 0
  · rw [if_neg (by simpa using he)] at HKE
    obtain ⟨hok, hrq⟩ := ask_ok he
    have HOK := Lib.hid ((okB_iff n T).1 hok)
    have HSM := Lib.hid (req_small hrq)
    have CM2 := Lib.hid (CM.out (askS ep n T N).act)
    cases hm : mayB (askS ep n T N).act code
    · rw [if_pos (.inl hm)] at HKE
      rw [HKE.out, HKF.out 2 HKE.out (by decide)]
      rw [hm] at CM2
      unfold AskPost at CA
      rw [he] at CA
      unfold FencePost
      clear HKE HKF hm hok hrq HSM hN hs CM HOK
      generalize (askS ep n T N).k = ak at *
      generalize (askS ep n T N).act = aa at *
      obtain ⟨kd, e, ol, ls, tk, od, st, un, cd, ky, da⟩ := N
      dsimp only at *
      generalize ky.length = n1 at *
      generalize da.length = n2 at *
      go_enter Tryz.func67, Tryz.ntmps67
      go_wp2_with fail
      with_reducible refine (CA.out _ BB.out).mono ?_
      rintro x w1 ⟨y, rfl, hy, hb⟩
      have NY := Lib.hid hy
      clear hy
      obtain ⟨E1, d1, z1, -⟩ := NY.out.2.1.slice
      obtain ⟨E2, d2, z2, -⟩ := NY.out.2.2.slice
      have hyk := NY.out.1
      obtain ⟨yk, yK, yD⟩ := y
      dsimp only at *
      subst z1 z2 hyk
      obtain ⟨yo, ys, yu, ya, yc, yr⟩ := yk
      dsimp only at *
      obtain ⟨m1, hm1⟩ : ∃ m, ya.length = m := ⟨_, rfl⟩
      obtain ⟨m2, hm2⟩ : ∃ m, yr.length = m := ⟨_, rfl⟩
      rw [hm1, hm2]
      clear NY hm1 hm2
      have LF_1 := Lib.hid ((Lies.below LF.out hb LF.out.lt).alloc (.cells #[.int .u32 (yo : Int), .int .i64 ys, .bool yu, .slice E1 m1 d1, .int .i64 yc, .slice E2 m2 d2] 130))
      have LN_1 := Lib.hid ((Lies.below LN.out hb LN.out.lt).alloc (.cells #[.int .u32 (yo : Int), .int .i64 ys, .bool yu, .slice E1 m1 d1, .int .i64 yc, .slice E2 m2 d2] 130))
      have LR_1 := Lib.hid ((Lies.below LR.out hb LR.out.lt).alloc (.cells #[.int .u32 (yo : Int), .int .i64 ys, .bool yu, .slice E1 m1 d1, .int .i64 yc, .slice E2 m2 d2] 130))
      have BB_1 := Lib.hid ((BB.out.trans (hb.mono BB.out.size)).alloc (BB.out.trans (hb.mono BB.out.size)).size (.cells #[.int .u32 (yo : Int), .int .i64 ys, .bool yu, .slice E1 m1 d1, .int .i64 yc, .slice E2 m2 d2] 130))
      have LN1_1 := Lib.hid (Lies.made w1 130 #[.int .u32 (yo : Int), .int .i64 ys, .bool yu, .slice E1 m1 d1, .int .i64 yc, .slice E2 m2 d2])
      clear hb
      obtain ⟨c0_0, c0_1⟩ := LF_1.out.cells2
      obtain ⟨f0_0, f0_1⟩ := LF_1.out.free2
      obtain ⟨c1_0, c1_1, c1_2, c1_3, c1_4, c1_5, c1_6, c1_7, c1_8, c1_9, c1_10⟩ := LN_1.out.cells11
      obtain ⟨f1_0, f1_1, f1_2, f1_3, f1_4, f1_5, f1_6, f1_7, f1_8, f1_9, f1_10⟩ := LN_1.out.free11
      obtain ⟨c2_0, c2_1⟩ := LR_1.out.cells2
      obtain ⟨f2_0, f2_1⟩ := LR_1.out.free2
      obtain ⟨c3_0, c3_1, c3_2, c3_3, c3_4, c3_5⟩ := LN1_1.out.cells6
      obtain ⟨f3_0, f3_1, f3_2, f3_3, f3_4, f3_5⟩ := LN1_1.out.free6
      rw [show ((0 : Nat) : Int) = 0 from rfl]
      go_wp2_with fail
      with_reducible refine (CM2.out _).mono ?_
      rintro x w2 ⟨rfl, rfl⟩
      go_wp2
      exact ret_fence (w.heap.size + 1 + 1) 64 _ rfl rfl (LR_1.out.put2 _ _) rfl rfl ⟨_, fun _ => ⟨kz, .slice none 0 0, .slice none 0 0⟩, rfl, NF.nil _ _ _, (fun i hi => by omega), below_put2 BB_1.out (by omega) _ _⟩
    · rw [hm] at CM2
      have HL := Lib.hid hR.1
      by_cases hlen : 255 < reply.length
      · rw [if_pos (.inr hlen)] at HKE
        rw [HKE.out, HKF.out 2 HKE.out (by decide)]
        have d3 : decide ((255 : Int) < (n3 : Int)) = true := by rw [decide_eq_true_iff, ← HL.out]; omega
        have d3b : decide (255 < n3) = true := by rw [decide_eq_true_iff, ← HL.out]; omega
        unfold AskPost at CA
        rw [he] at CA
        unfold FencePost
        clear HKE HKF hm hok hrq HSM hN hs CM HOK hlen
        generalize (askS ep n T N).k = ak at *
        generalize (askS ep n T N).act = aa at *
        obtain ⟨kd, e, ol, ls, tk, od, st, un, cd, ky, da⟩ := N
        dsimp only at *
        generalize ky.length = n1 at *
        generalize da.length = n2 at *
        go_enter Tryz.func67, Tryz.ntmps67
        go_wp2_with fail
        with_reducible refine (CA.out _ BB.out).mono ?_
        rintro x w1 ⟨y, rfl, hy, hb⟩
        have NY := Lib.hid hy
        clear hy
        obtain ⟨E1, d1, z1, -⟩ := NY.out.2.1.slice
        obtain ⟨E2, d2, z2, -⟩ := NY.out.2.2.slice
        have hyk := NY.out.1
        obtain ⟨yk, yK, yD⟩ := y
        dsimp only at *
        subst z1 z2 hyk
        obtain ⟨yo, ys, yu, ya, yc, yr⟩ := yk
        dsimp only at *
        obtain ⟨m1, hm1⟩ : ∃ m, ya.length = m := ⟨_, rfl⟩
        obtain ⟨m2, hm2⟩ : ∃ m, yr.length = m := ⟨_, rfl⟩
        rw [hm1, hm2]
        clear NY hm1 hm2
        have LF_1 := Lib.hid ((Lies.below LF.out hb LF.out.lt).alloc (.cells #[.int .u32 (yo : Int), .int .i64 ys, .bool yu, .slice E1 m1 d1, .int .i64 yc, .slice E2 m2 d2] 130))
        have LN_1 := Lib.hid ((Lies.below LN.out hb LN.out.lt).alloc (.cells #[.int .u32 (yo : Int), .int .i64 ys, .bool yu, .slice E1 m1 d1, .int .i64 yc, .slice E2 m2 d2] 130))
        have LR_1 := Lib.hid ((Lies.below LR.out hb LR.out.lt).alloc (.cells #[.int .u32 (yo : Int), .int .i64 ys, .bool yu, .slice E1 m1 d1, .int .i64 yc, .slice E2 m2 d2] 130))
        have BB_1 := Lib.hid ((BB.out.trans (hb.mono BB.out.size)).alloc (BB.out.trans (hb.mono BB.out.size)).size (.cells #[.int .u32 (yo : Int), .int .i64 ys, .bool yu, .slice E1 m1 d1, .int .i64 yc, .slice E2 m2 d2] 130))
        have LN1_1 := Lib.hid (Lies.made w1 130 #[.int .u32 (yo : Int), .int .i64 ys, .bool yu, .slice E1 m1 d1, .int .i64 yc, .slice E2 m2 d2])
        clear hb
        obtain ⟨c0_0, c0_1⟩ := LF_1.out.cells2
        obtain ⟨f0_0, f0_1⟩ := LF_1.out.free2
        obtain ⟨c1_0, c1_1, c1_2, c1_3, c1_4, c1_5, c1_6, c1_7, c1_8, c1_9, c1_10⟩ := LN_1.out.cells11
        obtain ⟨f1_0, f1_1, f1_2, f1_3, f1_4, f1_5, f1_6, f1_7, f1_8, f1_9, f1_10⟩ := LN_1.out.free11
        obtain ⟨c2_0, c2_1⟩ := LR_1.out.cells2
        obtain ⟨f2_0, f2_1⟩ := LR_1.out.free2
        obtain ⟨c3_0, c3_1, c3_2, c3_3, c3_4, c3_5⟩ := LN1_1.out.cells6
        obtain ⟨f3_0, f3_1, f3_2, f3_3, f3_4, f3_5⟩ := LN1_1.out.free6
        rw [show ((0 : Nat) : Int) = 0 from rfl]
        go_wp2_with fail
        with_reducible refine (CM2.out _).mono ?_
        rintro x w2 ⟨rfl, rfl⟩
        go_wp2
        exact ret_fence (w.heap.size + 1 + 1) 64 _ rfl rfl (LR_1.out.put2 _ _) rfl rfl ⟨_, fun _ => ⟨kz, .slice none 0 0, .slice none 0 0⟩, rfl, NF.nil _ _ _, (fun i hi => by omega), below_put2 BB_1.out (by omega) _ _⟩
      · rw [if_neg (by rintro (h | h); rw [hm] at h; cases h; exact hlen h)] at HKE
        have d3 : decide ((255 : Int) < (n3 : Int)) = false := by rw [decide_eq_false_iff_not, ← HL.out]; omega
        have d3b : decide (255 < n3) = false := by rw [decide_eq_false_iff_not, ← HL.out]; omega
        by_cases ha : (askS ep n T N).act = 2
        · rw [if_pos ha] at HKE
          rw [HKE.out, HKF.out 81 HKE.out (by decide)]
          have d4 : (((askS ep n T N).act : Int) == 2) = true := by simp; omega
          unfold AskPost at CA
          rw [he] at CA
          unfold FencePost
          clear HKE HKF hm hok hrq HSM hN hs CM HOK hlen ha
          generalize (askS ep n T N).k = ak at *
          generalize (askS ep n T N).act = aa at *
          obtain ⟨kd, e, ol, ls, tk, od, st, un, cd, ky, da⟩ := N
          dsimp only at *
          generalize ky.length = n1 at *
          generalize da.length = n2 at *
          go_enter Tryz.func67, Tryz.ntmps67
          go_wp2_with fail
          with_reducible refine (CA.out _ BB.out).mono ?_
          rintro x w1 ⟨y, rfl, hy, hb⟩
          have NY := Lib.hid hy
          clear hy
          obtain ⟨E1, d1, z1, -⟩ := NY.out.2.1.slice
          obtain ⟨E2, d2, z2, -⟩ := NY.out.2.2.slice
          have hyk := NY.out.1
          obtain ⟨yk, yK, yD⟩ := y
          dsimp only at *
          subst z1 z2 hyk
          obtain ⟨yo, ys, yu, ya, yc, yr⟩ := yk
          dsimp only at *
          obtain ⟨m1, hm1⟩ : ∃ m, ya.length = m := ⟨_, rfl⟩
          obtain ⟨m2, hm2⟩ : ∃ m, yr.length = m := ⟨_, rfl⟩
          rw [hm1, hm2]
          clear NY hm1 hm2
          have LF_1 := Lib.hid ((Lies.below LF.out hb LF.out.lt).alloc (.cells #[.int .u32 (yo : Int), .int .i64 ys, .bool yu, .slice E1 m1 d1, .int .i64 yc, .slice E2 m2 d2] 130))
          have LN_1 := Lib.hid ((Lies.below LN.out hb LN.out.lt).alloc (.cells #[.int .u32 (yo : Int), .int .i64 ys, .bool yu, .slice E1 m1 d1, .int .i64 yc, .slice E2 m2 d2] 130))
          have LR_1 := Lib.hid ((Lies.below LR.out hb LR.out.lt).alloc (.cells #[.int .u32 (yo : Int), .int .i64 ys, .bool yu, .slice E1 m1 d1, .int .i64 yc, .slice E2 m2 d2] 130))
          have BB_1 := Lib.hid ((BB.out.trans (hb.mono BB.out.size)).alloc (BB.out.trans (hb.mono BB.out.size)).size (.cells #[.int .u32 (yo : Int), .int .i64 ys, .bool yu, .slice E1 m1 d1, .int .i64 yc, .slice E2 m2 d2] 130))
          have LN1_1 := Lib.hid (Lies.made w1 130 #[.int .u32 (yo : Int), .int .i64 ys, .bool yu, .slice E1 m1 d1, .int .i64 yc, .slice E2 m2 d2])
          clear hb
          obtain ⟨c0_0, c0_1⟩ := LF_1.out.cells2
          obtain ⟨f0_0, f0_1⟩ := LF_1.out.free2
          obtain ⟨c1_0, c1_1, c1_2, c1_3, c1_4, c1_5, c1_6, c1_7, c1_8, c1_9, c1_10⟩ := LN_1.out.cells11
          obtain ⟨f1_0, f1_1, f1_2, f1_3, f1_4, f1_5, f1_6, f1_7, f1_8, f1_9, f1_10⟩ := LN_1.out.free11
          obtain ⟨c2_0, c2_1⟩ := LR_1.out.cells2
          obtain ⟨f2_0, f2_1⟩ := LR_1.out.free2
          obtain ⟨c3_0, c3_1, c3_2, c3_3, c3_4, c3_5⟩ := LN1_1.out.cells6
          obtain ⟨f3_0, f3_1, f3_2, f3_3, f3_4, f3_5⟩ := LN1_1.out.free6
          rw [show ((0 : Nat) : Int) = 0 from rfl]
          go_wp2_with fail
          with_reducible refine (CM2.out _).mono ?_
          rintro x w2 ⟨rfl, rfl⟩
          go_wp2
          exact ret_fence (w.heap.size + 1 + 1) 64 _ rfl rfl (LR_1.out.put2 _ _) rfl rfl ⟨_, fun _ => ⟨kz, .slice none 0 0, .slice none 0 0⟩, rfl, NF.nil _ _ _, (fun i hi => by omega), below_put2 BB_1.out (by omega) _ _⟩
        · rw [if_neg ha] at HKE
          have d4 : (((askS ep n T N).act : Int) == 2) = false := by simp; omega
          by_cases h200 : n = 200
          · rw [if_pos h200] at HKE
            rw [HKE.out, HKF.out 5 HKE.out (by decide)]
            have d5 : ((n : Int) == 200) = true := by simp; omega
            have d5b : (n == 200) = true := by simpa using h200
            unfold AskPost at CA
            rw [he] at CA
            unfold FencePost
            clear HKE HKF hm hok hrq HSM hN hs CM HOK hlen ha h200
            generalize (askS ep n T N).k = ak at *
            generalize (askS ep n T N).act = aa at *
            obtain ⟨kd, e, ol, ls, tk, od, st, un, cd, ky, da⟩ := N
            dsimp only at *
            generalize ky.length = n1 at *
            generalize da.length = n2 at *
            go_enter Tryz.func67, Tryz.ntmps67
            go_wp2_with fail
            with_reducible refine (CA.out _ BB.out).mono ?_
            rintro x w1 ⟨y, rfl, hy, hb⟩
            have NY := Lib.hid hy
            clear hy
            obtain ⟨E1, d1, z1, -⟩ := NY.out.2.1.slice
            obtain ⟨E2, d2, z2, -⟩ := NY.out.2.2.slice
            have hyk := NY.out.1
            obtain ⟨yk, yK, yD⟩ := y
            dsimp only at *
            subst z1 z2 hyk
            obtain ⟨yo, ys, yu, ya, yc, yr⟩ := yk
            dsimp only at *
            obtain ⟨m1, hm1⟩ : ∃ m, ya.length = m := ⟨_, rfl⟩
            obtain ⟨m2, hm2⟩ : ∃ m, yr.length = m := ⟨_, rfl⟩
            rw [hm1, hm2]
            clear NY hm1 hm2
            have LF_1 := Lib.hid ((Lies.below LF.out hb LF.out.lt).alloc (.cells #[.int .u32 (yo : Int), .int .i64 ys, .bool yu, .slice E1 m1 d1, .int .i64 yc, .slice E2 m2 d2] 130))
            have LN_1 := Lib.hid ((Lies.below LN.out hb LN.out.lt).alloc (.cells #[.int .u32 (yo : Int), .int .i64 ys, .bool yu, .slice E1 m1 d1, .int .i64 yc, .slice E2 m2 d2] 130))
            have LR_1 := Lib.hid ((Lies.below LR.out hb LR.out.lt).alloc (.cells #[.int .u32 (yo : Int), .int .i64 ys, .bool yu, .slice E1 m1 d1, .int .i64 yc, .slice E2 m2 d2] 130))
            have BB_1 := Lib.hid ((BB.out.trans (hb.mono BB.out.size)).alloc (BB.out.trans (hb.mono BB.out.size)).size (.cells #[.int .u32 (yo : Int), .int .i64 ys, .bool yu, .slice E1 m1 d1, .int .i64 yc, .slice E2 m2 d2] 130))
            have LN1_1 := Lib.hid (Lies.made w1 130 #[.int .u32 (yo : Int), .int .i64 ys, .bool yu, .slice E1 m1 d1, .int .i64 yc, .slice E2 m2 d2])
            clear hb
            obtain ⟨c0_0, c0_1⟩ := LF_1.out.cells2
            obtain ⟨f0_0, f0_1⟩ := LF_1.out.free2
            obtain ⟨c1_0, c1_1, c1_2, c1_3, c1_4, c1_5, c1_6, c1_7, c1_8, c1_9, c1_10⟩ := LN_1.out.cells11
            obtain ⟨f1_0, f1_1, f1_2, f1_3, f1_4, f1_5, f1_6, f1_7, f1_8, f1_9, f1_10⟩ := LN_1.out.free11
            obtain ⟨c2_0, c2_1⟩ := LR_1.out.cells2
            obtain ⟨f2_0, f2_1⟩ := LR_1.out.free2
            obtain ⟨c3_0, c3_1, c3_2, c3_3, c3_4, c3_5⟩ := LN1_1.out.cells6
            obtain ⟨f3_0, f3_1, f3_2, f3_3, f3_4, f3_5⟩ := LN1_1.out.free6
            rw [show ((0 : Nat) : Int) = 0 from rfl]
            go_wp2_with fail
            with_reducible refine (CM2.out _).mono ?_
            rintro x w2 ⟨rfl, rfl⟩
            go_wp2
            exact ret_fence (w.heap.size + 1 + 1) 64 _ rfl rfl (LR_1.out.put2 _ _) rfl rfl ⟨_, fun _ => ⟨kz, .slice none 0 0, .slice none 0 0⟩, rfl, NF.nil _ _ _, (fun i hi => by omega), below_put2 BB_1.out (by omega) _ _⟩
          · rw [if_neg h200] at HKE
            have d5 : ((n : Int) == 200) = false := by simp; omega
            have d5b : (n == 200) = false := by simpa using h200
            have HKF2 : Hid (keepF ep n T N code reply = ⟨N.epoch, n + 1, ins (pos T (nk N) n) (newK N code reply) T⟩) := Lib.hid (by unfold keepF; rw [if_pos HKE.out])
            rw [HKE.out, HKF2.out]
            have CS := Lib.hid (fun W (h : FV W A n c T) => search_any A n c T N.order N.step N.undo W h HOK.out hs)
            unfold BsPost at CS
            have hple := pos_le T (nk N) n
            unfold AskPost at CA
            rw [he] at CA
            unfold FencePost
            have HF := Lib.hid (hF.below BB.out)
            have HD := Lib.hid (hN.d.below BB.out)
            have HR := Lib.hid (hR.below BB.out)
            obtain ⟨hnc, hcm, hAc, X, hK, hX⟩ := hF
            have HVX : Hid (∀ i, i < n → (X i).k.a.length ≤ 100000 ∧ (X i).k.r.length ≤ 100000) := Lib.hid (fun i hi => by
              have h1 := KT.lens (x := X i) (by rw [hX i hi]; exact (HOK.out.2 i hi).1)
              omega)
            have CC := Lib.hid (fun W (hb : Below w.heap.size w W) => cloneAll_any A n c X W (hK.below hb) hnc hAc (by have := HOK.out.1; omega) HVX.out)
            have CK := Lib.hid (fun W (x : Kx) (h1 : KT W x) (h2 : x.k.a.length ≤ 100000) (h3 : x.k.r.length ≤ 100000) => clone_any x W h1 h2 h3)
            have HX := Lib.hid hX
            have hn2 := HOK.out.1
            have HNB := Lib.hid hN.b
            have HNC := Lib.hid (And.intro hN.dc (And.intro hN.dm hN.da))
            have hsm1 := HSM.out.1
            have HIK := Lib.hid (fun (Y : Nat → Kx) (y : Kx) (hy : ∀ i, i < n → (Y i).k = (X i).k) (hyk : y.k = newK N code reply) (i : Nat) (hi : i < n + 1) => (show (insX (pos T (nk N) n) y Y i).k = ins (pos T (nk N) n) (newK N code reply) T i from by
              rw [insX_k, hyk]
              unfold ins
              dsimp only
              by_cases q : i < pos T (nk N) n
              · rw [if_pos q, if_pos q, hy i (by omega), HX.out i (by omega)]
              · rw [if_neg q, if_neg q]
                by_cases q2 : i = pos T (nk N) n
                · rw [if_pos q2, if_pos q2]
                · rw [if_neg q2, if_neg q2, hy (i - 1) (by omega), HX.out (i - 1) (by omega)]))
            clear HKE HKF HKF2 hm hok hrq HSM hN CM hlen ha h200 hK hX hAc hR HVX
            generalize ins (pos T (nk N) n) (newK N code reply) T = TT at *
            generalize pos T (nk N) n = m at *
            generalize has n T (nk N) = fnd at *
            generalize (askS ep n T N).k = ak at *
            generalize (askS ep n T N).act = aa at *
            have HST := Lib.hid hs
            have HCO := Lib.hid hcode
            have HLR : Hid (reply.length ≤ 100000) := Lib.hid (by
              have h3 : decide (255 < n3) = false := d3b
              rw [decide_eq_false_iff_not] at h3
              rw [HL.out]; omega)
            obtain ⟨kd, e, ol, ls, tk, od, st, un, cd, ky, da⟩ := N
            dsimp only at *
            obtain ⟨n1, hn1⟩ : ∃ q, ky.length = q := ⟨_, rfl⟩
            obtain ⟨n2, hnn2⟩ : ∃ q, da.length = q := ⟨_, rfl⟩
            have HN2 := Lib.hid hnn2
            rw [hn1, hnn2]
            rw [hn1, hnn2] at CA LF LN LR BB HF HD HR
            rw [hnn2] at hsm1 HNC
            clear hs hcode hn1 hnn2
            go_enter Tryz.func67, Tryz.ntmps67
            go_wp2_with fail
            with_reducible refine (CA.out _ BB.out).mono ?_
            rintro x w1 ⟨y, rfl, hy, hb⟩
            have NY := Lib.hid hy
            clear hy
            obtain ⟨E1, d1, z1, -⟩ := NY.out.2.1.slice
            obtain ⟨E2, d2, z2, -⟩ := NY.out.2.2.slice
            have hyk := NY.out.1
            obtain ⟨yk, yK, yD⟩ := y
            dsimp only at *
            subst z1 z2 hyk
            obtain ⟨yo, ys, yu, ya, yc, yr⟩ := yk
            dsimp only at *
            obtain ⟨m1, hm1⟩ : ∃ m, ya.length = m := ⟨_, rfl⟩
            obtain ⟨m2, hm2⟩ : ∃ m, yr.length = m := ⟨_, rfl⟩
            rw [hm1, hm2]
            clear NY hm1 hm2
            have LF_1 := Lib.hid ((Lies.below LF.out hb LF.out.lt).alloc (.cells #[.int .u32 (yo : Int), .int .i64 ys, .bool yu, .slice E1 m1 d1, .int .i64 yc, .slice E2 m2 d2] 130))
            have LN_1 := Lib.hid ((Lies.below LN.out hb LN.out.lt).alloc (.cells #[.int .u32 (yo : Int), .int .i64 ys, .bool yu, .slice E1 m1 d1, .int .i64 yc, .slice E2 m2 d2] 130))
            have LR_1 := Lib.hid ((Lies.below LR.out hb LR.out.lt).alloc (.cells #[.int .u32 (yo : Int), .int .i64 ys, .bool yu, .slice E1 m1 d1, .int .i64 yc, .slice E2 m2 d2] 130))
            have BB_1 := Lib.hid ((BB.out.trans (hb.mono BB.out.size)).alloc (BB.out.trans (hb.mono BB.out.size)).size (.cells #[.int .u32 (yo : Int), .int .i64 ys, .bool yu, .slice E1 m1 d1, .int .i64 yc, .slice E2 m2 d2] 130))
            have HF_1 := Lib.hid ((HF.out.below hb).below (below1 _ (.cells #[.int .u32 (yo : Int), .int .i64 ys, .bool yu, .slice E1 m1 d1, .int .i64 yc, .slice E2 m2 d2] 130)))
            have HD_1 := Lib.hid ((HD.out.belowD hb).below (below1 _ (.cells #[.int .u32 (yo : Int), .int .i64 ys, .bool yu, .slice E1 m1 d1, .int .i64 yc, .slice E2 m2 d2] 130)))
            have HR_1 := Lib.hid ((HR.out.belowD hb).below (below1 _ (.cells #[.int .u32 (yo : Int), .int .i64 ys, .bool yu, .slice E1 m1 d1, .int .i64 yc, .slice E2 m2 d2] 130)))
            have LN1_1 := Lib.hid (Lies.made w1 130 #[.int .u32 (yo : Int), .int .i64 ys, .bool yu, .slice E1 m1 d1, .int .i64 yc, .slice E2 m2 d2])
            clear hb
            obtain ⟨c0_0, c0_1⟩ := LF_1.out.cells2
            obtain ⟨f0_0, f0_1⟩ := LF_1.out.free2
            obtain ⟨c1_0, c1_1, c1_2, c1_3, c1_4, c1_5, c1_6, c1_7, c1_8, c1_9, c1_10⟩ := LN_1.out.cells11
            obtain ⟨f1_0, f1_1, f1_2, f1_3, f1_4, f1_5, f1_6, f1_7, f1_8, f1_9, f1_10⟩ := LN_1.out.free11
            obtain ⟨c2_0, c2_1⟩ := LR_1.out.cells2
            obtain ⟨f2_0, f2_1⟩ := LR_1.out.free2
            obtain ⟨c3_0, c3_1, c3_2, c3_3, c3_4, c3_5⟩ := LN1_1.out.cells6
            obtain ⟨f3_0, f3_1, f3_2, f3_3, f3_4, f3_5⟩ := LN1_1.out.free6
            rw [show ((0 : Nat) : Int) = 0 from rfl]
            go_wp2_with fail
            with_reducible refine (CM2.out _).mono ?_
            rintro x w2 ⟨rfl, rfl⟩
            go_wp2_with fail
            with_reducible refine (CS.out _ HF_1.out).mono ?_
            rintro x w3 ⟨rfl, hb⟩
            have LF_3 := Lib.hid ((Lies.below LF_1.out hb LF_1.out.lt))
            have LN_3 := Lib.hid ((Lies.below LN_1.out hb LN_1.out.lt))
            have LR_3 := Lib.hid ((Lies.below LR_1.out hb LR_1.out.lt))
            have LN1_3 := Lib.hid ((Lies.below LN1_1.out hb LN1_1.out.lt))
            have BB_3 := Lib.hid (BB_1.out.trans (hb.mono BB_1.out.size))
            have HF_3 := Lib.hid ((HF_1.out.below hb))
            have HD_3 := Lib.hid ((HD_1.out.belowD hb))
            have HR_3 := Lib.hid ((HR_1.out.belowD hb))
            clear hb
            have LF3 := Lib.hid (LF_3.out.alloc (.cells #[.int .u32 (od : Nat), .int .i64 st, .bool un, .slice A2 n2 c2, .int .i64 code, .slice A3 n3 c3] 130))
            have LN3 := Lib.hid (LN_3.out.alloc (.cells #[.int .u32 (od : Nat), .int .i64 st, .bool un, .slice A2 n2 c2, .int .i64 code, .slice A3 n3 c3] 130))
            have LR3 := Lib.hid (LR_3.out.alloc (.cells #[.int .u32 (od : Nat), .int .i64 st, .bool un, .slice A2 n2 c2, .int .i64 code, .slice A3 n3 c3] 130))
            have LK3 := Lib.hid (Lies.made w3 130 #[.int .u32 (od : Nat), .int .i64 st, .bool un, .slice A2 n2 c2, .int .i64 code, .slice A3 n3 c3])
            have BB3 := Lib.hid (BB_3.out.alloc BB_3.out.size (.cells #[.int .u32 (od : Nat), .int .i64 st, .bool un, .slice A2 n2 c2, .int .i64 code, .slice A3 n3 c3] 130))
            have HD3 := Lib.hid (HD_3.out.alloc (.cells #[.int .u32 (od : Nat), .int .i64 st, .bool un, .slice A2 n2 c2, .int .i64 code, .slice A3 n3 c3] 130))
            have HR3 := Lib.hid (HR_3.out.alloc (.cells #[.int .u32 (od : Nat), .int .i64 st, .bool un, .slice A2 n2 c2, .int .i64 code, .slice A3 n3 c3] 130))
            have e3 : w.heap.size + 1 + 1 < w3.heap.size := LR_3.out.lt
            clear c0_0 c0_1 f0_0 f0_1 c1_0 c1_1 c1_2 c1_3 c1_4 c1_5 c1_6 c1_7 c1_8 c1_9 c1_10 f1_0 f1_1 f1_2 f1_3 f1_4 f1_5 f1_6 f1_7 f1_8 f1_9 f1_10 c2_0 c2_1 f2_0 f2_1 c3_0 c3_1 c3_2 c3_3 c3_4 c3_5 f3_0 f3_1 f3_2 f3_3 f3_4 f3_5
            obtain ⟨c0_0, c0_1⟩ := LF3.out.cells2
            obtain ⟨f0_0, f0_1⟩ := LF3.out.free2
            obtain ⟨c1_0, c1_1, c1_2, c1_3, c1_4, c1_5, c1_6, c1_7, c1_8, c1_9, c1_10⟩ := LN3.out.cells11
            obtain ⟨f1_0, f1_1, f1_2, f1_3, f1_4, f1_5, f1_6, f1_7, f1_8, f1_9, f1_10⟩ := LN3.out.free11
            obtain ⟨c2_0, c2_1⟩ := LR3.out.cells2
            obtain ⟨f2_0, f2_1⟩ := LR3.out.free2
            obtain ⟨c3_0, c3_1, c3_2, c3_3, c3_4, c3_5⟩ := LK3.out.cells6
            obtain ⟨f3_0, f3_1, f3_2, f3_3, f3_4, f3_5⟩ := LK3.out.free6
            obtain ⟨a0, a1⟩ := LF_3.out.cells2
            obtain ⟨b0, b1, b2, b3, b4, b5, b6, b7, b8, b9, b10⟩ := LN_3.out.cells11
            go_wp2_with fail
            clear a0 a1 b0 b1 b2 b3 b4 b5 b6 b7 b8 b9 b10
            go_region_held3 (fun W => W.cell? ⟨w.heap.size, 1, none⟩ = some (.slice A n c) ∧ W.cell? ⟨w.heap.size + 1, 1, none⟩ = some (.int .u32 (e : Nat)) ∧ W.cell? ⟨w3.heap.size, 0, none⟩ = some (.int .u32 (od : Nat)) ∧ W.cell? ⟨w3.heap.size, 1, none⟩ = some (.int .i64 st) ∧ W.cell? ⟨w3.heap.size, 2, none⟩ = some (.bool un) ∧ W.cell? ⟨w3.heap.size, 3, none⟩ = some (.slice A2 n2 c2) ∧ W.cell? ⟨w3.heap.size, 4, none⟩ = some (.int .i64 code) ∧ W.cell? ⟨w3.heap.size, 5, none⟩ = some (.slice A3 n3 c3)) (first | (obtain ⟨u0, u1⟩ := (((Lies.other LF6.out (a := ⟨w.heap.size + 1 + 1, 0, none⟩) (by dsimp only; omega) (.int .u32 (e : Nat))).other (a := ⟨w.heap.size + 1 + 1, 1, none⟩) (by dsimp only; omega) (.slice A6 (n + 1) c6))).cells2; obtain ⟨v0, v1, v2, v3, v4, v5, v6, v7, v8, v9, v10⟩ := (((Lies.other LN6.out (a := ⟨w.heap.size + 1 + 1, 0, none⟩) (by dsimp only; omega) (.int .u32 (e : Nat))).other (a := ⟨w.heap.size + 1 + 1, 1, none⟩) (by dsimp only; omega) (.slice A6 (n + 1) c6))).cells11; obtain ⟨t0, t1, t2, t3, t4, t5⟩ := (((Lies.other LK6.out (a := ⟨w.heap.size + 1 + 1, 0, none⟩) (by dsimp only; omega) (.int .u32 (e : Nat))).other (a := ⟨w.heap.size + 1 + 1, 1, none⟩) (by dsimp only; omega) (.slice A6 (n + 1) c6))).cells6; exact ⟨u1, v1, t0, t1, t2, t3, t4, t5⟩) | (obtain ⟨u0, u1⟩ := LF6.out.cells2; obtain ⟨v0, v1, v2, v3, v4, v5, v6, v7, v8, v9, v10⟩ := LN6.out.cells11; obtain ⟨t0, t1, t2, t3, t4, t5⟩ := LK6.out.cells6; exact ⟨u1, v1, t0, t1, t2, t3, t4, t5⟩) | (obtain ⟨u0, u1⟩ := LF5.out.cells2; obtain ⟨v0, v1, v2, v3, v4, v5, v6, v7, v8, v9, v10⟩ := LN5.out.cells11; obtain ⟨t0, t1, t2, t3, t4, t5⟩ := LK5.out.cells6; exact ⟨u1, v1, t0, t1, t2, t3, t4, t5⟩) | (obtain ⟨u0, u1⟩ := LF4.out.cells2; obtain ⟨v0, v1, v2, v3, v4, v5, v6, v7, v8, v9, v10⟩ := LN4.out.cells11; obtain ⟨t0, t1, t2, t3, t4, t5⟩ := LK4.out.cells6; exact ⟨u1, v1, t0, t1, t2, t3, t4, t5⟩) | go_keep)
              (first
              | (go_at_call 100; (with_reducible refine (CC.out _ BB3.out.drew).mono ?_); (rintro x w4 ⟨v, Y, rfl, hnf, hyk, hb⟩); (have NF4 := Lib.hid hnf); (have HYK := Lib.hid hyk); (have LF4 := Lib.hid (Lies.below (Lies.drew LF3.out) hb (Lies.lt LF3.out))); (have LN4 := Lib.hid (Lies.below (Lies.drew LN3.out) hb (Lies.lt LN3.out))); (have LR4 := Lib.hid (Lies.below (Lies.drew LR3.out) hb (Lies.lt LR3.out))); (have LK4 := Lib.hid (Lies.below (Lies.drew LK3.out) hb (Lies.lt LK3.out))); (have BB4 := Lib.hid (BB3.out.drew.trans (hb.mono BB3.out.size))); (have HD4 := Lib.hid ((HD3.out.drew).below hb)); (have HR4 := Lib.hid ((HR3.out.drew).below hb)); (have BLE4 := Lib.hid hb.size); (clear hnf hyk hb))
              | (go_at_call 105; (have CK4 := Lib.hid (CK.out w4 ⟨⟨od, st, un, da, code, reply⟩, .slice A2 n2 c2, .slice A3 n3 c3⟩ ⟨⟨A2, c2, by rw [HN2.out], by rw [HN2.out]; exact HD4.out, by rw [HN2.out]; exact HNC.out.1, HNC.out.2.1, HNC.out.2.2⟩, ⟨A3, c3, by rw [HL.out], by rw [HL.out]; exact HR4.out, by rw [HL.out]; exact hR2, hR3, hR4⟩, HNB.out.order, HST.out, HCO.out⟩ (by have := HN2.out; dsimp only; omega) HLR.out)); (with_reducible refine CK4.out.mono ?_); (rintro x w5 ⟨y2, rfl, hy2, hb⟩); (have NY5 := Lib.hid hy2); (obtain ⟨F1, g1, z1, -⟩ := hy2.2.1.slice); (obtain ⟨F2, g2, z2, -⟩ := hy2.2.2.slice); (have hyk2 := hy2.1); (clear hy2); (obtain ⟨yk2, yK2, yD2⟩ := y2); (dsimp only at *); (subst z1 z2 hyk2); (try dsimp only at *); (have LF5 := Lib.hid (Lies.below (LF4.out) hb (Lies.lt LF4.out))); (have LN5 := Lib.hid (Lies.below (LN4.out) hb (Lies.lt LN4.out))); (have LR5 := Lib.hid (Lies.below (LR4.out) hb (Lies.lt LR4.out))); (have LK5 := Lib.hid (Lies.below (LK4.out) hb (Lies.lt LK4.out))); (have BB5 := Lib.hid (BB4.out.trans (hb.mono BB4.out.size))); (have NF5 := Lib.hid (NF4.out.below hb)); (have HB45 := Lib.hid hb); (clear hb))
              | (go_at_call 104; (have LK6a := Lib.hid (LK5.out.alloc (.cells #[.int .u32 (od : Nat), .int .i64 st, .bool un, .slice F1 da.length g1, .int .i64 code, .slice F2 reply.length g2] 130))); (have LG := Lib.hid (Lies.made w5 130 #[.int .u32 (od : Nat), .int .i64 st, .bool un, .slice F1 da.length g1, .int .i64 code, .slice F2 reply.length g2])); (have NF6a := Lib.hid (NF5.out.below (below1 w5 (.cells #[.int .u32 (od : Nat), .int .i64 st, .bool un, .slice F1 da.length g1, .int .i64 code, .slice F2 reply.length g2] 130)))); (have CI := Lib.hid (insert_any (w3.alloc (.cells #[.int .u32 (od : Nat), .int .i64 st, .bool un, .slice A2 n2 c2, .int .i64 code, .slice A3 n3 c3] 130)).heap.size w5.heap.size n m v Y ⟨⟨od, st, un, da, code, reply⟩, .slice F1 da.length g1, .slice F2 reply.length g2⟩ (w5.alloc (.cells #[.int .u32 (od : Nat), .int .i64 st, .bool un, .slice F1 da.length g1, .int .i64 code, .slice F2 reply.length g2] 130)) NF6a.out.row (fun i hi => (NF6a.out.kt i hi).one) ⟨(NY5.out.2.1.alloc _).reads, (NY5.out.2.2.alloc _).reads, HNB.out.order, HST.out, HCO.out⟩ LG.out (fun q => by have := NF5.out.row.blockLt _ q; omega) hple (by omega) (Nat.le_trans (Nat.le_trans BLE4.out HB45.out.size) (by simp)))); (with_reducible refine CI.out.mono ?_); (rintro x w6 ⟨v6, rfl, ho6, hg6⟩); (obtain ⟨A6, c6, z6, -⟩ := ho6.slice); (subst z6); (have HO6 := Lib.hid ho6); (have HG6 := Lib.hid hg6); (have LF6 := Lib.hid (Lies.grownK (LF5.out.alloc (.cells #[.int .u32 (od : Nat), .int .i64 st, .bool un, .slice F1 da.length g1, .int .i64 code, .slice F2 reply.length g2] 130)) NF6a.out.row hg6 (by have := LF3.out.lt; exact this))); (have LN6 := Lib.hid (Lies.grownK (LN5.out.alloc (.cells #[.int .u32 (od : Nat), .int .i64 st, .bool un, .slice F1 da.length g1, .int .i64 code, .slice F2 reply.length g2] 130)) NF6a.out.row hg6 (by have := LN3.out.lt; exact this))); (have LR6 := Lib.hid (Lies.grownK (LR5.out.alloc (.cells #[.int .u32 (od : Nat), .int .i64 st, .bool un, .slice F1 da.length g1, .int .i64 code, .slice F2 reply.length g2] 130)) NF6a.out.row hg6 (by have := LR3.out.lt; exact this))); (have LK6 := Lib.hid (Lies.grownK (LK5.out.alloc (.cells #[.int .u32 (od : Nat), .int .i64 st, .bool un, .slice F1 da.length g1, .int .i64 code, .slice F2 reply.length g2] 130)) NF6a.out.row hg6 (by have := LK3.out.lt; exact this))); (have BB6 := Lib.hid (OwnK.grows NF6a.out.row hg6 (BB5.out.alloc BB5.out.size (.cells #[.int .u32 (od : Nat), .int .i64 st, .bool un, .slice F1 da.length g1, .int .i64 code, .slice F2 reply.length g2] 130)) BB3.out.size (BB5.out.alloc BB5.out.size (.cells #[.int .u32 (od : Nat), .int .i64 st, .bool un, .slice F1 da.length g1, .int .i64 code, .slice F2 reply.length g2] 130)).size)); (clear ho6 hg6); (obtain ⟨r0, r1⟩ := LR6.out.cells2); (obtain ⟨rf0, rf1⟩ := LR6.out.free2)))
            go_wp2
            refine ret_fence (w.heap.size + 1 + 1) 64 _ rfl rfl (LR6.out.put2 _ _) rfl rfl ⟨_, insX m ⟨⟨od, st, un, da, code, reply⟩, .slice F1 da.length g1, .slice F2 reply.length g2⟩ Y, rfl, ?_, HIK.out Y _ HYK.out rfl, below_put2 BB6.out (by omega) _ _⟩
            have HOK2 : ∀ (u : Value) (l : List Nat), Own w5 w.heap.size u l → Own (put2 w6 (w.heap.size + 1 + 1) (.int .u32 (e : Nat)) (.slice A6 (n + 1) c6)) w.heap.size u l := fun u l h => ((((h.alloc (.cells #[.int .u32 (od : Nat), .int .i64 st, .bool un, .slice F1 da.length g1, .int .i64 code, .slice F2 reply.length g2] 130)).grownK NF6a.out.row HG6.out).lies_put LR6.out (by decide) 0 _).lies_put (LR6.out.put 0 _) (by decide) 1 _)
            have HBW := BB3.out.size
            have HBW4 := BB4.out.size
            refine NF.insert hple ((HO6.out.same (fun k hk => (heap_setCell_other _ ⟨w.heap.size + 1 + 1, 1, none⟩ k _ (fun q => HO6.out.ne LR6.out (by decide) (by rw [hk, q]))).trans (heap_setCell_other _ ⟨w.heap.size + 1 + 1, 0, none⟩ k _ (fun q => HO6.out.ne LR6.out (by decide) (by rw [hk, q]))))).mono HBW) (fun i hi => HOK2 _ _ ((NF5.out.a i hi).mono HBW)) (fun i hi => HOK2 _ _ ((NF5.out.r i hi).mono HBW)) NF5.out.b NF5.out.da NF5.out.dr (HOK2 _ _ (NY5.out.2.1.mono HBW4)) (HOK2 _ _ (NY5.out.2.2.mono HBW4)) ⟨HNB.out.order, HST.out, HCO.out⟩ (fun i hi => fresh_ne (NF4.out.a i hi) NY5.out.2.1) (fun i hi => fresh_ne (NF4.out.r i hi) NY5.out.2.2)
  · rw [if_pos he] at HKE
    rw [HKE.out, HKF.out _ HKE.out he]
    unfold AskPost at CA
    have dz : (((askS ep n T N).e : Int) != 0) = true := by simp; omega
    clear HKE HKF hN hs CM he
    generalize (askS ep n T N).k = ak at *
    generalize (askS ep n T N).act = aa at *
    generalize (askS ep n T N).e = ae at *
    obtain ⟨kd, e, ol, ls, tk, od, st, un, cd, ky, da⟩ := N
    dsimp only at *
    generalize ky.length = n1 at *
    generalize da.length = n2 at *
    go_enter Tryz.func67, Tryz.ntmps67
    go_wp2_with fail
    with_reducible refine (CA.out _ BB.out).mono ?_
    rintro x w1 ⟨y, rfl, hy, hb⟩
    have NY := Lib.hid hy
    clear hy
    obtain ⟨E1, d1, z1, -⟩ := NY.out.2.1.slice
    obtain ⟨E2, d2, z2, -⟩ := NY.out.2.2.slice
    have hyk := NY.out.1
    obtain ⟨yk, yK, yD⟩ := y
    dsimp only at *
    subst z1 z2 hyk
    obtain ⟨yo, ys, yu, ya, yc, yr⟩ := yk
    dsimp only at *
    obtain ⟨m1, hm1⟩ : ∃ m, ya.length = m := ⟨_, rfl⟩
    obtain ⟨m2, hm2⟩ : ∃ m, yr.length = m := ⟨_, rfl⟩
    rw [hm1, hm2]
    clear NY hm1 hm2
    have LF_1 := Lib.hid ((Lies.below LF.out hb LF.out.lt).alloc (.cells #[.int .u32 (yo : Int), .int .i64 ys, .bool yu, .slice E1 m1 d1, .int .i64 yc, .slice E2 m2 d2] 130))
    have LN_1 := Lib.hid ((Lies.below LN.out hb LN.out.lt).alloc (.cells #[.int .u32 (yo : Int), .int .i64 ys, .bool yu, .slice E1 m1 d1, .int .i64 yc, .slice E2 m2 d2] 130))
    have LR_1 := Lib.hid ((Lies.below LR.out hb LR.out.lt).alloc (.cells #[.int .u32 (yo : Int), .int .i64 ys, .bool yu, .slice E1 m1 d1, .int .i64 yc, .slice E2 m2 d2] 130))
    have BB_1 := Lib.hid ((BB.out.trans (hb.mono BB.out.size)).alloc (BB.out.trans (hb.mono BB.out.size)).size (.cells #[.int .u32 (yo : Int), .int .i64 ys, .bool yu, .slice E1 m1 d1, .int .i64 yc, .slice E2 m2 d2] 130))
    have LN1_1 := Lib.hid (Lies.made w1 130 #[.int .u32 (yo : Int), .int .i64 ys, .bool yu, .slice E1 m1 d1, .int .i64 yc, .slice E2 m2 d2])
    clear hb
    obtain ⟨c0_0, c0_1⟩ := LF_1.out.cells2
    obtain ⟨f0_0, f0_1⟩ := LF_1.out.free2
    obtain ⟨c1_0, c1_1, c1_2, c1_3, c1_4, c1_5, c1_6, c1_7, c1_8, c1_9, c1_10⟩ := LN_1.out.cells11
    obtain ⟨f1_0, f1_1, f1_2, f1_3, f1_4, f1_5, f1_6, f1_7, f1_8, f1_9, f1_10⟩ := LN_1.out.free11
    obtain ⟨c2_0, c2_1⟩ := LR_1.out.cells2
    obtain ⟨f2_0, f2_1⟩ := LR_1.out.free2
    obtain ⟨c3_0, c3_1, c3_2, c3_3, c3_4, c3_5⟩ := LN1_1.out.cells6
    obtain ⟨f3_0, f3_1, f3_2, f3_3, f3_4, f3_5⟩ := LN1_1.out.free6
    go_wp2
    refine ret_fence (w.heap.size + 1 + 1) 64 _ rfl rfl (LR_1.out.put2 _ _) rfl rfl ?_
    have hbz := below_put2 BB_1.out (show w.heap.size ≤ w.heap.size + 1 + 1 by omega) (.int .u32 0) (.slice none 0 0)
    exact ⟨_, fun _ => ⟨kz, .slice none 0 0, .slice none 0 0⟩, rfl, NF.nil _ _ _, (fun i hi => absurd hi (Nat.not_lt_zero i)), hbz⟩

end Go.Proofs.YtpbclmnhkmcknaaGreat.Fe

namespace Go.Proofs.YtpbclmnhkmcknaaGreat.Fe
open Go.RowKit
set_option maxRecDepth 100000
set_option linter.unusedVariables false
set_option linter.unusedSimpArgs false

theorem OwnK.lies_put {w : World} {B : Nat} {v : Value} {n : Nat} {X : Nat → Kx} {g : Nat} {t : TypeId} {cs : Array Value} (h : OwnK w B v n X) (hL : Lies w g t cs) (ht : t ≠ 130) (o : Nat) (u : Value) : OwnK (w.setCell ⟨g, o, none⟩ u) B v n X :=
  h.same (fun k hk => heap_setCell_other _ ⟨g, o, none⟩ k _ (fun q => h.ne hL ht (by rw [hk, q])))
theorem NF.lies_put {w : World} {B : Nat} {v : Value} {n : Nat} {X : Nat → Kx} {g : Nat} {t : TypeId} {cs : Array Value} (h : NF w B v n X) (hL : Lies w g t cs) (ht : t ≠ 130) (ht5 : t ≠ 5) (o : Nat) (u : Value) : NF (w.setCell ⟨g, o, none⟩ u) B v n X :=
  ⟨h.row.lies_put hL ht o u, fun i hi => (h.a i hi).lies_put hL ht5 o u, fun i hi => (h.r i hi).lies_put hL ht5 o u, h.b, h.da, h.dr⟩
theorem NF.put2 {w : World} {B : Nat} {v : Value} {n : Nat} {X : Nat → Kx} {g : Nat} {z0 z1 : Value} (h : NF w B v n X) (hL : Lies w g 64 #[z0, z1]) (a b : Value) : NF (Go.Proofs.YtpbclmnhkmcknaaGreat.Fe.put2 w g a b) B v n X :=
  (h.lies_put hL (by decide) (by decide) 0 a).lies_put (hL.put 0 a) (by decide) (by decide) 1 b
set_option maxHeartbeats 8000000 in
theorem see_any (ep : Nat) (A : Option Addr) (n c : Nat) (T : Nat → Kp) (e : Nat) (w : World) (hF : FV w A n c T) :
    Calls Tryz.prog 64 #[.agg #[.int .u32 (ep : Int), .slice A n c], .int .u32 (e : Int)] w (FencePost w (seeE ep n T e) (seeF ep n T e)) := by
  have CK := Lib.hid (fun W (h : FV W A n c T) => check_fence ep A n c T W h)
  have BB := Lib.hid (below2 w (.cells #[.int .u32 (ep : Int), .slice A n c] 64) (.cells #[.int .u32 0, .slice none 0 0] 64))
  have LF := Lib.hid ((Lies.made w 64 #[.int .u32 (ep : Int), .slice A n c]).alloc (.cells #[.int .u32 0, .slice none 0 0] 64))
  have LR := Lib.hid (Lies.made2 w (.cells #[.int .u32 (ep : Int), .slice A n c] 64) 64 #[.int .u32 0, .slice none 0 0])
  have HF := Lib.hid (hF.below BB.out)
  cases hok : okB n T
  · rw [show seeE ep n T e = 2 from by unfold seeE; rw [hok]; rfl, show seeF ep n T e = fz from by unfold seeF seeE; rw [hok]; rfl]
    rw [chkC_bad hok] at CK
    clear hF hok
    go_enter Tryz.func64, Tryz.ntmps64
    go_wp2_with fail
    with_reducible refine (CK.out _ HF.out).mono ?_
    rintro x w1 ⟨rfl, hb⟩
    have LF_1 := Lib.hid ((Lies.below LF.out hb LF.out.lt))
    have LR_1 := Lib.hid ((Lies.below LR.out hb LR.out.lt))
    have BB_1 := Lib.hid (BB.out.trans (hb.mono BB.out.size))
    clear hb
    obtain ⟨c0_0, c0_1⟩ := LF_1.out.cells2
    obtain ⟨f0_0, f0_1⟩ := LF_1.out.free2
    obtain ⟨c1_0, c1_1⟩ := LR_1.out.cells2
    obtain ⟨f1_0, f1_1⟩ := LR_1.out.free2
    rw [show ((2 : Nat) : Int) = 2 from rfl]
    go_wp2
    exact ret_fence (w.heap.size + 1) 64 _ rfl rfl (LR_1.out.put2 _ _) rfl rfl ⟨_, fun _ => ⟨kz, .slice none 0 0, .slice none 0 0⟩, rfl, NF.nil _ _ _, (fun i hi => absurd hi (Nat.not_lt_zero i)), below_put2 BB_1.out (Nat.le_succ _) _ _⟩
  · rw [chkC_ok hok] at CK
    by_cases hst : e < ep
    · rw [show seeE ep n T e = 72 from by unfold seeE; rw [if_pos hok, if_pos hst], show seeF ep n T e = fz from by unfold seeF seeE; rw [if_pos hok, if_pos hst]; rfl]
      have ds : decide ((e : Int) < (ep : Int)) = true := by rw [decide_eq_true_iff]; omega
      have ds2 : decide (e < ep) = true := by rw [decide_eq_true_iff]; omega
      clear hF hok hst
      go_enter Tryz.func64, Tryz.ntmps64
      go_wp2_with fail
      with_reducible refine (CK.out _ HF.out).mono ?_
      rintro x w1 ⟨rfl, hb⟩
      have LF_1 := Lib.hid ((Lies.below LF.out hb LF.out.lt))
      have LR_1 := Lib.hid ((Lies.below LR.out hb LR.out.lt))
      have BB_1 := Lib.hid (BB.out.trans (hb.mono BB.out.size))
      clear hb
      obtain ⟨c0_0, c0_1⟩ := LF_1.out.cells2
      obtain ⟨f0_0, f0_1⟩ := LF_1.out.free2
      obtain ⟨c1_0, c1_1⟩ := LR_1.out.cells2
      obtain ⟨f1_0, f1_1⟩ := LR_1.out.free2
      rw [show ((0 : Nat) : Int) = 0 from rfl]
      go_wp2
      exact ret_fence (w.heap.size + 1) 64 _ rfl rfl (LR_1.out.put2 _ _) rfl rfl ⟨_, fun _ => ⟨kz, .slice none 0 0, .slice none 0 0⟩, rfl, NF.nil _ _ _, (fun i hi => absurd hi (Nat.not_lt_zero i)), below_put2 BB_1.out (Nat.le_succ _) _ _⟩
    · rw [show seeE ep n T e = 0 from by unfold seeE; rw [if_pos hok, if_neg hst], show seeF ep n T e = ⟨e, n, T⟩ from by unfold seeF seeE; rw [if_pos hok, if_neg hst, if_pos rfl]]
      have ds : decide ((e : Int) < (ep : Int)) = false := by rw [decide_eq_false_iff_not]; omega
      have ds2 : decide (e < ep) = false := by rw [decide_eq_false_iff_not]; omega
      have HOK := (okB_iff n T).1 hok
      obtain ⟨hnc, hcm, hAc, X, hK, hX⟩ := hF
      have hn2 := HOK.1
      have HVX : Hid (∀ i, i < n → (X i).k.a.length ≤ 100000 ∧ (X i).k.r.length ≤ 100000) := Lib.hid (fun i hi => by
        have h1 := KT.lens (x := X i) (by rw [hX i hi]; exact (HOK.2 i hi).1)
        omega)
      have CC := Lib.hid (fun W (hb : Below w.heap.size w W) => cloneAll_any A n c X W (hK.below hb) hnc hAc (by omega) HVX.out)
      have HX := Lib.hid hX
      clear hK hX hAc hok hst HOK
      go_enter Tryz.func64, Tryz.ntmps64
      go_wp2_with fail
      with_reducible refine (CK.out _ HF.out).mono ?_
      rintro x w1 ⟨rfl, hb⟩
      have LF_1 := Lib.hid ((Lies.below LF.out hb LF.out.lt))
      have LR_1 := Lib.hid ((Lies.below LR.out hb LR.out.lt))
      have BB_1 := Lib.hid (BB.out.trans (hb.mono BB.out.size))
      clear hb
      obtain ⟨c0_0, c0_1⟩ := LF_1.out.cells2
      obtain ⟨f0_0, f0_1⟩ := LF_1.out.free2
      obtain ⟨c1_0, c1_1⟩ := LR_1.out.cells2
      obtain ⟨f1_0, f1_1⟩ := LR_1.out.free2
      rw [show ((0 : Nat) : Int) = 0 from rfl]
      go_wp2_with fail
      with_reducible refine (CC.out _ BB_1.out).mono ?_
      rintro x w2 ⟨v, Y, rfl, hnf, hyk, hb⟩
      have NF2 := Lib.hid hnf
      have HYK := Lib.hid hyk
      obtain ⟨E1, d1, z1, -⟩ := hnf.row.slice
      clear hnf hyk
      subst z1
      have LF_2 := Lib.hid ((Lies.below LF_1.out hb LF_1.out.lt))
      have LR_2 := Lib.hid ((Lies.below LR_1.out hb LR_1.out.lt))
      have BB_2 := Lib.hid (BB_1.out.trans (hb.mono BB_1.out.size))
      clear hb
      clear c0_0 c0_1 f0_0 f0_1 c1_0 c1_1 f1_0 f1_1
      obtain ⟨c0_0, c0_1⟩ := LF_2.out.cells2
      obtain ⟨f0_0, f0_1⟩ := LF_2.out.free2
      obtain ⟨c1_0, c1_1⟩ := LR_2.out.cells2
      obtain ⟨f1_0, f1_1⟩ := LR_2.out.free2
      go_wp2
      refine ret_fence (w.heap.size + 1) 64 _ rfl rfl (LR_2.out.put2 _ _) rfl rfl ⟨_, Y, rfl, ?_, (fun i hi => (HYK.out i hi).trans (HX.out i hi)), below_put2 BB_2.out (Nat.le_succ _) _ _⟩
      exact (NF.put2 NF2.out LR_2.out _ _).mono BB_1.out.size

end Go.Proofs.YtpbclmnhkmcknaaGreat.Fe

namespace Go.Proofs.YtpbclmnhkmcknaaGreat.St
open Go.Proofs Go.Shelf Go.RowKit Go.Lib Go.Sort
set_option maxRecDepth 100000

def sortGoodR : Ren where
  f := fun x => match x with
    | 6 => 117
    | 15 => 144
    | 14 => 143
    | 28 => 174
    | 29 => 175
    | 20 => 166
    | 21 => 167
    | 22 => 168
    | 23 => 169
    | 24 => 170
    | 25 => 171
    | 26 => 172
    | 27 => 173
    | 46 => 198
    | 47 => 199
    | 48 => 200
    | 49 => 201
    | 50 => 202
    | 57 => 207
    | n => n
  t := fun x => match x with
    | 22 => 39
    | 24 => 90
    | 25 => 219
    | 3 => 3
    | 39 => 226
    | 0 => 0
    | 53 => 52
    | 55 => 53
    | 4 => 4
    | 46 => 256
    | 45 => 255
    | 50 => 201
    | 5 => 5
    | 9 => 9
    | 66 => 284
    | 70 => 288
    | 76 => 294
    | 77 => 214
    | n => n
  g := fun n => n
theorem sortGoodL : SlLaysF0.n6 Tryz.prog sortGoodR where
  mixed := by kernel_rfl
  f6 := ⟨Tryz.f117.name, by kernel_rfl, Tryz.func117.trans (congrArg some (by kernel_rfl))⟩
  f14 := ⟨Tryz.f143.name, by kernel_rfl, Tryz.func143.trans (congrArg some (by kernel_rfl))⟩
  f15 := Tryz.func144.trans (congrArg some (by kernel_rfl))
  f20 := ⟨Tryz.f166.name, by kernel_rfl, Tryz.func166.trans (congrArg some (by kernel_rfl))⟩
  f21 := ⟨Tryz.f167.name, by kernel_rfl, Tryz.func167.trans (congrArg some (by kernel_rfl))⟩
  f22 := ⟨Tryz.f168.name, by kernel_rfl, Tryz.func168.trans (congrArg some (by kernel_rfl))⟩
  f23 := ⟨Tryz.f169.name, by kernel_rfl, Tryz.func169.trans (congrArg some (by kernel_rfl))⟩
  f24 := ⟨Tryz.f170.name, by kernel_rfl, Tryz.func170.trans (congrArg some (by kernel_rfl))⟩
  f25 := ⟨Tryz.f171.name, by kernel_rfl, Tryz.func171.trans (congrArg some (by kernel_rfl))⟩
  f26 := ⟨Tryz.f172.name, by kernel_rfl, Tryz.func172.trans (congrArg some (by kernel_rfl))⟩
  f27 := ⟨Tryz.f173.name, by kernel_rfl, Tryz.func173.trans (congrArg some (by kernel_rfl))⟩
  f28 := Tryz.func174.trans (congrArg some (by kernel_rfl))
  f29 := Tryz.func175.trans (congrArg some (by kernel_rfl))
  f46 := ⟨Tryz.f198.name, by kernel_rfl, Tryz.func198.trans (congrArg some (by kernel_rfl))⟩
  f47 := Tryz.func199.trans (congrArg some (by kernel_rfl))
  f48 := Tryz.func200.trans (congrArg some (by kernel_rfl))
  f49 := ⟨Tryz.f201.name, by kernel_rfl, Tryz.func201.trans (congrArg some (by kernel_rfl))⟩
  f50 := ⟨Tryz.f202.name, by kernel_rfl, Tryz.func202.trans (congrArg some (by kernel_rfl))⟩
  f57 := ⟨Tryz.f207.name, by kernel_rfl, Tryz.func207.trans (congrArg some (by kernel_rfl))⟩
  t0 := Tryz.underlying0
  a0 := Tryz.isAgg0
  z0 := Tryz.sizeOf0
  v0 := Tryz.zeroValue0
  t3 := Tryz.underlying3
  a3 := Tryz.isAgg3
  z3 := Tryz.sizeOf3
  v3 := Tryz.zeroValue3
  t4 := Tryz.underlying4
  a4 := Tryz.isAgg4
  z4 := Tryz.sizeOf4
  v4 := Tryz.zeroValue4
  t5 := Tryz.underlying5
  a5 := Tryz.isAgg5
  z5 := Tryz.sizeOf5
  v5 := Tryz.zeroValue5
  t9 := Tryz.underlying9
  a9 := Tryz.isAgg9
  z9 := Tryz.sizeOf9
  v9 := Tryz.zeroValue9
  t22 := Tryz.underlying39
  a22 := Tryz.isAgg39
  z22 := Tryz.sizeOf39
  v22 := Tryz.zeroValue39
  t25 := Tryz.underlying219
  a25 := Tryz.isAgg219
  z25 := Tryz.sizeOf219
  v25 := Tryz.zeroValue219
  t39 := Tryz.underlying226
  a39 := Tryz.isAgg226
  z39 := Tryz.sizeOf226
  v39 := Tryz.zeroValue226
  t45 := Tryz.underlying255
  a45 := Tryz.isAgg255
  z45 := Tryz.sizeOf255
  v45 := Tryz.zeroValue255
  t46 := Tryz.underlying256
  a46 := Tryz.isAgg256
  z46 := Tryz.sizeOf256
  v46 := Tryz.zeroValue256
  t50 := Tryz.underlying201
  a50 := Tryz.isAgg201
  z50 := Tryz.sizeOf201
  v50 := Tryz.zeroValue201
  t53 := Tryz.underlying52
  a53 := Tryz.isAgg52
  z53 := Tryz.sizeOf52
  v53 := Tryz.zeroValue52
  t55 := Tryz.underlying53
  a55 := Tryz.isAgg53
  z55 := Tryz.sizeOf53
  v55 := Tryz.zeroValue53
  t66 := Tryz.underlying284
  a66 := Tryz.isAgg284
  z66 := Tryz.sizeOf284
  v66 := Tryz.zeroValue284
  t70 := Tryz.underlying288
  a70 := Tryz.isAgg288
  z70 := Tryz.sizeOf288
  v70 := Tryz.zeroValue288
  t76 := Tryz.underlying294
  a76 := Tryz.isAgg294
  z76 := Tryz.sizeOf294
  v76 := Tryz.zeroValue294
  t77 := Tryz.underlying214
  a77 := Tryz.isAgg214
  z77 := Tryz.sizeOf214
  v77 := Tryz.zeroValue214

end Go.Proofs.YtpbclmnhkmcknaaGreat.St

namespace Go.Proofs.YtpbclmnhkmcknaaGreat.St
open Go.RowKit Go.Maps
open Go.WideMaps (keyOf_string_mk)
set_option maxRecDepth 100000
set_option linter.unusedVariables false
set_option linter.unusedSimpArgs false

abbrev vK (k : Kd) : Value := .agg #[encStr k.n, .int .i64 k.f, .int .i64 k.g]
abbrev vH (h : Hd) : Value := .agg #[encStr h.n, .int .i64 h.k]
def dK (k : Kd) : DataW Unit := .agg [.lit (.string k.n), .lit (.int .i64 k.f), .lit (.int .i64 k.g)]
def dH (h : Hd) : DataW Unit := .agg [.lit (.string h.n), .lit (.int .i64 h.k)]
def zK : Kd := ⟨[], 0, 0⟩
def zH : Hd := ⟨0, [], 0⟩
def rK : Value → Option (DataW Unit × List MemPlace)
  | .agg cs => match cs.toList with
    | [.string s, .int .i64 f, .int .i64 g] => some (dK ⟨s.data.toList, f, g⟩, [])
    | _ => none
  | _ => none
def rH : Value → Option (DataW Unit × List MemPlace)
  | .agg cs => match cs.toList with
    | [.string s, .int .i64 f] => some (dH ⟨0, s.data.toList, f⟩, [])
    | _ => none
  | _ => none
theorem rK_mk (k : Kd) : rK (vK k) = some (dK k, []) := by simp [rK, vK, encStr, dK]
theorem rH_mk (h : Hd) : rH (vH h) = some (dH h, []) := by simp [rH, vH, encStr, dH]
theorem rK_inv {v : Value} {y : DataW Unit × List MemPlace} (h : rK v = some y) : ∃ k, v = vK k ∧ y = (dK k, []) := by
  unfold rK at h
  split at h
  · rename_i cs
    split at h
    · rename_i s f g e
      refine ⟨⟨s.data.toList, f, g⟩, ?_, by simpa using h.symm⟩
      have : cs = #[.string s, .int .i64 f, .int .i64 g] := by rw [← Array.toList_inj, e]
      rw [this]
    · cases h
  · cases h
theorem rH_inv {v : Value} {y : DataW Unit × List MemPlace} (h : rH v = some y) : ∃ k, v = vH k ∧ y = (dH k, []) := by
  unfold rH at h
  split at h
  · rename_i cs
    split at h
    · rename_i s f e
      refine ⟨⟨0, s.data.toList, f⟩, ?_, by simpa using h.symm⟩
      have : cs = #[.string s, .int .i64 f] := by rw [← Array.toList_inj, e]
      rw [this]
    · cases h
  · cases h
theorem dK_inj {a b : Kd} (h : dK a = dK b) : a = b := by
  unfold dK at h
  simp only [DataW.agg.injEq, List.cons.injEq, DataW.lit.injEq, Lit.string.injEq, Lit.int.injEq, true_and, and_true] at h
  cases a; cases b; simp_all
theorem dH_inj {a b : Hd} (h : dH a = dH b) : a.n = b.n ∧ a.k = b.k := by
  unfold dH at h
  simp only [DataW.agg.injEq, List.cons.injEq, DataW.lit.injEq, Lit.string.injEq, Lit.int.injEq, true_and, and_true] at h
  exact h

theorem lawK : Keyed Tryz.prog 9 := string_keyed Tryz.underlying9
theorem lawH : Keyed Tryz.prog 52 := int_keyed Tryz.underlying52
theorem keyK (x : List UInt8) (hx : x.length ≤ maxLen) : keyOf Tryz.prog 9 (encStr x) = some (.string x) := by
  have := keyOf_string_mk (P := Tryz.prog) (s := ⟨x.toArray⟩) Tryz.underlying9 (by simpa [ByteArray.size] using hx)
  simpa using this
theorem keyH (o : Nat) (ho : o < 4294967296) : keyOf Tryz.prog 52 (.int .u32 (o : Int)) = some (.int .u32 (o : Int)) :=
  keyOf_int_mk Tryz.underlying52 (WalkArith.wf_u32 (by omega))

/-- The map's datum holds just these kinds. -/
def KT (D : DataW Unit) (K : List Kd) : Prop := (∀ k ∈ K, ∀ z, D.atKey (.string k.n) z = dK k) ∧ ∀ x, (∀ k ∈ K, k.n ≠ x) → ∀ z, D.atKey (.string x) z = z
def HT (D : DataW Unit) (H : List Hd) : Prop := (∀ h ∈ H, ∀ z, D.atKey (.int .u32 (h.o : Int)) z = dH h) ∧ ∀ o : Nat, (∀ h ∈ H, h.o ≠ o) → ∀ z, D.atKey (.int .u32 (o : Int)) z = z
def OwnK (w : World) (b : Nat) (K : List Kd) : Prop := ∃ D, w.ownsMap Tryz.prog 9 rK b (Maps.size D) D ∧ KT D K ∧ Maps.size D = K.length
def OwnH (w : World) (b : Nat) (H : List Hd) : Prop := ∃ D, w.ownsMap Tryz.prog 52 rH b (Maps.size D) D ∧ HT D H ∧ Maps.size D = H.length

theorem tight {w : World} {k : TypeId} {R : Value → Option (DataW Unit × List MemPlace)} {b n : Nat} {D : DataW Unit} (h : w.ownsMap Tryz.prog k R b n D) : w.ownsMap Tryz.prog k R b (Maps.size D) D := by
  obtain ⟨es, clock, hb, F, hs, rfl⟩ := h
  refine ⟨es, clock, hb, F, ?_, rfl⟩
  simp [Maps.size, length_sorted]

theorem OwnK.lt {w : World} {b : Nat} {K : List Kd} (h : OwnK w b K) : b < w.heap.size := by obtain ⟨D, h, -⟩ := h; exact h.lt
theorem OwnH.lt {w : World} {b : Nat} {H : List Hd} (h : OwnH w b H) : b < w.heap.size := by obtain ⟨D, h, -⟩ := h; exact h.lt
theorem OwnK.same {w w' : World} {b : Nat} {K : List Kd} (h : OwnK w b K) (e : w'.heap[b]? = w.heap[b]?) : OwnK w' b K := by
  obtain ⟨D, ⟨es, clock, hb, r⟩, h2⟩ := h
  exact ⟨D, ⟨es, clock, e.trans hb, r⟩, h2⟩
theorem OwnH.same {w w' : World} {b : Nat} {H : List Hd} (h : OwnH w b H) (e : w'.heap[b]? = w.heap[b]?) : OwnH w' b H := by
  obtain ⟨D, ⟨es, clock, hb, r⟩, h2⟩ := h
  exact ⟨D, ⟨es, clock, e.trans hb, r⟩, h2⟩

theorem OwnK.made (w : World) : OwnK (w.alloc (.map #[] 0)) w.heap.size [] :=
  ⟨.map [], World.ownsMap_made w Tryz.prog 9 rK, ⟨(fun k hk => absurd hk (by simp)), fun x _ z => rfl⟩, rfl⟩
theorem OwnH.made (w : World) : OwnH (w.alloc (.map #[] 0)) w.heap.size [] :=
  ⟨.map [], World.ownsMap_made w Tryz.prog 52 rH, ⟨(fun k hk => absurd hk (by simp)), fun x _ z => rfl⟩, rfl⟩

/-! ### what is looked up -/
theorem KT.find {D : DataW Unit} {K : List Kd} (h : KT D K) (x : List UInt8) (z : DataW Unit) : D.atKey (.string x) z = match findK K x with | none => z | some k => dK k := by
  cases hf : findK K x with
  | none => exact h.2 x (findK_none hf) z
  | some k => obtain ⟨hk, rfl⟩ := findK_some hf; exact h.1 k hk z
theorem KT.has {D : DataW Unit} {K : List Kd} (h : KT D K) (x : List UInt8) : Maps.has D (.string x) = (findK K x).isSome := by
  cases hf : findK K x with
  | none => exact has_false_of_atKey (h.2 x (findK_none hf))
  | some k => obtain ⟨hk, rfl⟩ := findK_some hf; exact has_true_of_atKey (h.1 k hk)
theorem HT.find {D : DataW Unit} {H : List Hd} (h : HT D H) (o : Nat) (z : DataW Unit) : D.atKey (.int .u32 (o : Int)) z = match findH H o with | none => z | some k => dH k := by
  cases hf : findH H o with
  | none => exact h.2 o (findH_none hf) z
  | some k => obtain ⟨hk, rfl⟩ := findH_some hf; exact h.1 k hk z
theorem HT.has {D : DataW Unit} {H : List Hd} (h : HT D H) (o : Nat) : Maps.has D (.int .u32 (o : Int)) = (findH H o).isSome := by
  cases hf : findH H o with
  | none => exact has_false_of_atKey (h.2 o (findH_none hf))
  | some k => obtain ⟨hk, rfl⟩ := findH_some hf; exact has_true_of_atKey (h.1 k hk)

theorem OwnK.look_ok {w : World} {b : Nat} {K : List Kd} (h : OwnK w b K) (x : List UInt8) (hx : x.length ≤ maxLen) :
    (Instr.lookup 172 (.map (some b)) (encStr x) true).run Tryz.prog w = .ok (.tuple #[vK ((findK K x).getD zK), .bool (findK K x).isSome]) w := by
  obtain ⟨D, hown, hT, -⟩ := h
  obtain ⟨v, ps, hrun, hv⟩ := hown.look_ok lawK Tryz.underlying172 (Tryz.zeroValue178 w) (zd := dK zK) (zp := []) (rK_mk zK) (keyK x hx)
  rw [hT.find] at hv
  rw [hrun, hT.has]
  obtain ⟨k, rfl, e⟩ := rK_inv hv
  have e1 : (match findK K x with | none => dK zK | some k => dK k) = dK k := congrArg Prod.fst e
  have : (findK K x).getD zK = k := by
    cases hf : findK K x with
    | none => rw [hf] at e1; exact dK_inj e1
    | some k' => rw [hf] at e1; exact dK_inj e1
  rw [this]
theorem OwnK.look {w : World} {b : Nat} {K : List Kd} (h : OwnK w b K) (x : List UInt8) (hx : x.length ≤ maxLen) :
    (Instr.lookup 172 (.map (some b)) (encStr x) false).run Tryz.prog w = .ok (vK ((findK K x).getD zK)) w := by
  obtain ⟨D, hown, hT, -⟩ := h
  obtain ⟨v, ps, hrun, hv⟩ := hown.lookup lawK Tryz.underlying172 (Tryz.zeroValue178 w) (zd := dK zK) (zp := []) (rK_mk zK) (keyK x hx)
  rw [hT.find] at hv
  rw [hrun]
  obtain ⟨k, rfl, e⟩ := rK_inv hv
  have e1 : (match findK K x with | none => dK zK | some k => dK k) = dK k := congrArg Prod.fst e
  have : (findK K x).getD zK = k := by
    cases hf : findK K x with
    | none => rw [hf] at e1; exact dK_inj e1
    | some k' => rw [hf] at e1; exact dK_inj e1
  rw [this]
theorem OwnH.look_ok {w : World} {b : Nat} {H : List Hd} (h : OwnH w b H) (o : Nat) (ho : o < 4294967296) :
    (Instr.lookup 173 (.map (some b)) (.int .u32 (o : Int)) true).run Tryz.prog w = .ok (.tuple #[vH ((findH H o).getD zH), .bool (findH H o).isSome]) w := by
  obtain ⟨D, hown, hT, -⟩ := h
  obtain ⟨v, ps, hrun, hv⟩ := hown.look_ok lawH Tryz.underlying173 (Tryz.zeroValue279 w) (zd := dH zH) (zp := []) (rH_mk zH) (keyH o ho)
  rw [hT.find] at hv
  rw [hrun, hT.has]
  obtain ⟨k, rfl, e⟩ := rH_inv hv
  have e1 : (match findH H o with | none => dH zH | some k => dH k) = dH k := congrArg Prod.fst e
  have : ((findH H o).getD zH).n = k.n ∧ ((findH H o).getD zH).k = k.k := by
    cases hf : findH H o with
    | none => rw [hf] at e1; exact dH_inj e1
    | some k' => rw [hf] at e1; exact dH_inj e1
  unfold vH
  rw [this.1, this.2]
theorem OwnK.len {w : World} {b : Nat} {K : List Kd} (h : OwnK w b K) (ty : TypeId) : (Builtin.len_ #[172] ty #[.map (some b)]).run Tryz.prog w = .ok (.int .i64 K.length) w := by
  obtain ⟨D, hown, hT, hz⟩ := h
  rw [hown.len Tryz.underlying172 ty, hz]
/-! ### what is stored and deleted -/
theorem isKeyS (x : List UInt8) : WideAt.IsKeyLit (.string x) := by simp [WideAt.IsKeyLit]
theorem isKeyI (o : Int) : WideAt.IsKeyLit (.int .u32 o) := by simp [WideAt.IsKeyLit]
theorem keyNe {a b : Nat} (h : a ≠ b) : (Lit.int .u32 (a : Int)) ≠ .int .u32 (b : Int) := fun e => h (by injection e with _ e; omega)
theorem OwnK.upd {w : World} {b : Nat} {K : List Kd} (h : OwnK w b K) (hs : KSort K) (k k0 : Kd) (h0 : k0 ∈ K) (e0 : k0.n = k.n) (hx : k.n.length ≤ maxLen) (hK : K.length ≤ 1000000) :
    ∃ w', (Instr.mapUpdate 172 (.map (some b)) (encStr k.n) (vK k)).run Tryz.prog w = .ok () w' ∧ OwnK w' b (updK K k) ∧ w.mapTurned w' b := by
  obtain ⟨D, hown, hT, hz⟩ := h
  obtain ⟨w', hrun, hown', ht⟩ := hown.store lawK Tryz.underlying172 (by unfold maxLen; omega) (keyK k.n hx) (rK_mk k)
  refine ⟨w', hrun, ⟨_, tight hown', ⟨?_, ?_⟩, ?_⟩, ht⟩
  · intro y hy z
    rcases mem_updK.1 hy with ⟨rfl, _⟩ | ⟨hy, hne⟩
    · exact atKey_put_same hown.isMap (isKeyS _) _ _
    · rw [atKey_put_other (by simpa using hne)]; exact hT.1 y hy z
  · intro x hx z
    have hne : x ≠ k.n := fun e => hx k (mem_updK.2 (.inl ⟨rfl, k0, h0, e0⟩)) e.symm
    rw [atKey_put_other (by simpa using hne)]
    refine hT.2 x (fun y hy e => ?_) z
    exact hx y (mem_updK.2 (.inr ⟨hy, fun e' => hne (e.symm.trans e')⟩)) e
  · have hh : Maps.has D (.string k.n) = true := by rw [hT.has, ← e0, hs.find h0]; rfl
    rw [size_put (hown.tidy lawK), if_pos hh, hz, updK_length]
theorem mem_insK {h y : Kd} : ∀ {H : List Kd}, y ∈ insK h H ↔ y = h ∨ y ∈ H
  | [] => by simp [insK]
  | x :: r => by
    unfold insK
    split
    · simp
    · simp only [List.mem_cons, mem_insK (H := r)]
      constructor
      · rintro (h | h | h) <;> simp [h]
      · rintro (h | h | h) <;> simp [h]
theorem insK_length (h : Kd) : ∀ H : List Kd, (insK h H).length = H.length + 1
  | [] => rfl
  | x :: r => by unfold insK; split <;> simp [insK_length h r]
theorem KSort.ins {K : List Kd} {k : Kd} (hs : KSort K) (hn : ∀ x ∈ K, x.n ≠ k.n) : KSort (insK k K) := by
  induction K with
  | nil => exact List.pairwise_singleton _ _
  | cons x r ih =>
    obtain ⟨h1, h2⟩ := List.pairwise_cons.1 hs
    unfold insK
    split
    · rename_i e
      refine List.pairwise_cons.2 ⟨fun y hy => ?_, hs⟩
      rcases List.mem_cons.1 hy with rfl | hy
      · exact e
      · exact nm_trans e (h1 y hy)
    · rename_i e
      refine List.pairwise_cons.2 ⟨fun y hy => ?_, ih h2 fun y hy => hn y (List.mem_cons_of_mem _ hy)⟩
      rcases mem_insK.1 hy with rfl | hy
      · exact nm_tri e (hn x (List.mem_cons_self ..)).symm
      · exact h1 y hy
theorem OwnK.add {w : World} {b : Nat} {K : List Kd} (h : OwnK w b K) (k : Kd) (hn : ∀ y ∈ K, y.n ≠ k.n) (hx : k.n.length ≤ maxLen) (hK : K.length ≤ 1000000) :
    ∃ w', (Instr.mapUpdate 172 (.map (some b)) (encStr k.n) (vK k)).run Tryz.prog w = .ok () w' ∧ OwnK w' b (insK k K) ∧ w.mapTurned w' b := by
  obtain ⟨D, hown, hT, hz⟩ := h
  obtain ⟨w', hrun, hown', ht⟩ := hown.store lawK Tryz.underlying172 (by unfold maxLen; omega) (keyK k.n hx) (rK_mk k)
  refine ⟨w', hrun, ⟨_, tight hown', ⟨?_, ?_⟩, ?_⟩, ht⟩
  · intro y hy z
    rcases mem_insK.1 hy with rfl | hy
    · exact atKey_put_same hown.isMap (isKeyS _) _ _
    · rw [atKey_put_other (by simpa using hn y hy)]; exact hT.1 y hy z
  · intro x hx z
    have hne : x ≠ k.n := fun e => hx k (mem_insK.2 (.inl rfl)) e.symm
    rw [atKey_put_other (by simpa using hne)]
    exact hT.2 x (fun y hy e => hx y (mem_insK.2 (.inr hy)) e) z
  · have hh : Maps.has D (.string k.n) = false := has_false_of_atKey (hT.2 k.n hn)
    rw [size_put (hown.tidy lawK), if_neg (by rw [hh]; decide), hz, insK_length]
theorem OwnH.add {w : World} {b : Nat} {H : List Hd} (h : OwnH w b H) (k : Hd) (hn : ∀ y ∈ H, y.o ≠ k.o) (hx : k.o < 4294967296) (hK : H.length ≤ 1000000) :
    ∃ w', (Instr.mapUpdate 173 (.map (some b)) (.int .u32 (k.o : Int)) (vH k)).run Tryz.prog w = .ok () w' ∧ OwnH w' b (insH k H) ∧ w.mapTurned w' b := by
  obtain ⟨D, hown, hT, hz⟩ := h
  obtain ⟨w', hrun, hown', ht⟩ := hown.store lawH Tryz.underlying173 (by unfold maxLen; omega) (keyH k.o hx) (rH_mk k)
  refine ⟨w', hrun, ⟨_, tight hown', ⟨?_, ?_⟩, ?_⟩, ht⟩
  · intro y hy z
    rcases mem_insH.1 hy with rfl | hy
    · exact atKey_put_same hown.isMap (isKeyI _) _ _
    · rw [atKey_put_other (keyNe (hn y hy))]; exact hT.1 y hy z
  · intro x hx z
    have hne : x ≠ k.o := fun e => hx k (mem_insH.2 (.inl rfl)) e.symm
    rw [atKey_put_other (keyNe hne)]
    exact hT.2 x (fun y hy e => hx y (mem_insH.2 (.inr hy)) e) z
  · have hh : Maps.has D (.int .u32 (k.o : Int)) = false := has_false_of_atKey (hT.2 k.o hn)
    rw [size_put (hown.tidy lawH), if_neg (by rw [hh]; decide), hz, insH_length]
theorem OwnH.del {w : World} {b : Nat} {H : List Hd} (h : OwnH w b H) (hs : HSort H) (k : Hd) (hk : k ∈ H) (hx : k.o < 4294967296) (ty : TypeId) :
    ∃ w', (Builtin.delete_ #[173, 52] ty #[.map (some b), .int .u32 (k.o : Int)]).run Tryz.prog w = .ok (.tuple #[]) w' ∧ OwnH w' b (delH H k.o) ∧ w.mapTurned w' b := by
  obtain ⟨D, hown, hT, hz⟩ := h
  obtain ⟨w', hrun, hown', ht⟩ := hown.drop lawH Tryz.underlying173 (keyH k.o hx) ty
  refine ⟨w', hrun, ⟨_, tight hown', ⟨?_, ?_⟩, ?_⟩, ht⟩
  · intro y hy z
    obtain ⟨hy, hne⟩ := mem_delH.1 hy
    rw [atKey_del_other (keyNe hne)]; exact hT.1 y hy z
  · intro x hx z
    by_cases e : x = k.o
    · subst e; exact atKey_del_same z
    · rw [atKey_del_other (keyNe e)]
      exact hT.2 x (fun y hy e' => hx y (mem_delH.2 ⟨hy, fun e2 => e (e'.symm.trans e2)⟩) e') z
  · have hh : Maps.has D (.int .u32 (k.o : Int)) = true := by rw [hT.has, hs.find hk]; rfl
    have h1 := size_del (k := .int .u32 (k.o : Int)) (hown.tidy lawH)
    rw [if_pos hh] at h1
    have h2 := delH_length hs hk
    omega

end Go.Proofs.YtpbclmnhkmcknaaGreat.St
