/-
  The document's Keep, where it answers with an error.
-/
import Derived.Test.YtfcfejmammohpaaRAsk
import Derived.Test.YtfcfejmammohpaaKeepP
namespace Go.Proofs.Ytfcfejmammohpaa
open Go.RowKit
set_option maxRecDepth 100000
set_option linter.unusedVariables false
set_option linter.unusedSimpArgs false

theorem keepE_eq (ep n : Nat) (T : Nat → Kp) (N : Note) (code : Int) (reply : List Nat) : keepE ep n T N code reply = if (askS ep n T N).e ≠ 0 then (askS ep n T N).e else if mayB (askS ep n T N).act code = false ∨ 255 < reply.length then 2 else if (askS ep n T N).act = 2 then 81 else if n = 200 then 5 else 0 := rfl
theorem keepF_z {ep n : Nat} {T : Nat → Kp} {N : Note} {code : Int} {reply : List Nat} (E : Nat) (h : keepE ep n T N code reply = E) (h0 : E ≠ 0) : keepF ep n T N code reply = fz := by unfold keepF; rw [if_neg (by rw [h]; exact h0)]
theorem mayB_of {act : Nat} {code : Int} (h1 : 1 ≤ code) (h2 : code ≤ 2) (h3 : act = 3 → code = 2) (h4 : act = 4 → code = 1) : mayB act code = true := by
  unfold mayB
  by_cases a : act = 3
  · rw [if_pos a, decide_eq_true_iff]; exact h3 a
  · rw [if_neg a]
    by_cases b : act = 4
    · rw [if_pos b, decide_eq_true_iff]; exact h4 b
    · rw [if_neg b, decide_eq_true_iff]; omega
theorem mayB_no {act : Nat} {code : Int} (h : code < 1 ∨ 2 < code ∨ (act = 3 ∧ code ≠ 2) ∨ (act = 4 ∧ code ≠ 1)) : mayB act code = false := by
  cases hm : mayB act code
  · rfl
  · exfalso
    unfold mayB at hm
    by_cases a : act = 3
    · rw [if_pos a, decide_eq_true_iff] at hm; omega
    · rw [if_neg a] at hm
      by_cases b : act = 4
      · rw [if_pos b, decide_eq_true_iff] at hm; omega
      · rw [if_neg b, decide_eq_true_iff] at hm; omega
set_option maxHeartbeats 16000000 in
theorem rkeep_err (ep : Nat) (A : Option Addr) (n c : Nat) (T : Nat → Kp) (N : Note) (A1 A2 : Option Addr) (c1 c2 : Nat) (code : Int) (A3 : Option Addr) (n3 c3 : Nat) (reply : List Nat) (w : World)
    (hF : FV w A n c T) (hN : EntV w N A1 A2 c1 c2) (hs : in64 N.step) (hep : ep < 4294967296) (hcode : in64 code) (hR : Bys w A3 n3 reply) (hR4 : A3 = none → c3 = 0) (hE : keepE ep n T N code reply ≠ 0) :
    Calls Try.prog 27 #[.agg #[.int .u32 (ep : Int), .slice A n c], .agg (evs N (.slice A1 N.key.length c1) (.slice A2 N.data.length c2)), .int .i64 code, .slice A3 n3 c3] w (FencePost w (keepE ep n T N code reply) (keepF ep n T N code reply)) := by
  have CA := Lib.hid (fun W (hb : Below w.heap.size w W) => rask_any ep A n c T N A1 A2 c1 c2 W (hF.below hb) (hN.below hb) hs hep)
  have BB := Lib.hid (below3 w (.cells #[.int .u32 (ep : Int), .slice A n c] 25) (.cells (evs N (.slice A1 N.key.length c1) (.slice A2 N.data.length c2)) 29) (.cells #[.int .u32 0, .slice none 0 0] 25))
  have LF := Lib.hid (((Lies.made w 25 #[.int .u32 (ep : Int), .slice A n c]).alloc (.cells (evs N (.slice A1 N.key.length c1) (.slice A2 N.data.length c2)) 29)).alloc (.cells #[.int .u32 0, .slice none 0 0] 25))
  have LN := Lib.hid ((Lies.made2 w (.cells #[.int .u32 (ep : Int), .slice A n c] 25) 29 (evs N (.slice A1 N.key.length c1) (.slice A2 N.data.length c2))).alloc (.cells #[.int .u32 0, .slice none 0 0] 25))
  have LR := Lib.hid (Lies.made3 w (.cells #[.int .u32 (ep : Int), .slice A n c] 25) (.cells (evs N (.slice A1 N.key.length c1) (.slice A2 N.data.length c2)) 29) 25 #[.int .u32 0, .slice none 0 0])
  have HL := Lib.hid hR.1
  unfold RAskPost at CA
  have HKE := Lib.hid (keepE_eq ep n T N code reply)
  have HKF := Lib.hid (fun E h h0 => keepF_z (ep := ep) (n := n) (T := T) (N := N) (code := code) (reply := reply) E h h0)
  by_cases he : (askS ep n T N).e = 0
  · rw [if_neg (by simpa using he)] at HKE
    by_cases b1 : code < 1
    · rw [if_pos (.inl (mayB_no (.inl b1)))] at HKE
      rw [HKE.out, HKF.out 2 HKE.out (by decide)]
      have e1 : decide (code < 1) = true := by rw [decide_eq_true_iff]; omega
      rw [he] at CA
      clear HKE HKF hN hs b1 hE he
      generalize (askS ep n T N).k = ak at *
      generalize (askS ep n T N).act = aa at *
      obtain ⟨kd, e, ol, ls, tk, od, st, un, cd, ky, da⟩ := N
      dsimp only at *
      generalize ky.length = n1 at *
      generalize da.length = n2 at *
      go_enter Try.func27, Try.ntmps27
      go_wp2_with fail
      with_reducible refine (CA.out _ BB.out).mono ?_
      rintro x w1 ⟨y, rfl, hyk, hkt, hb⟩
      obtain ⟨E1, d1, z1, -⟩ := hkt.a
      obtain ⟨E2, d2, z2, -⟩ := hkt.r
      obtain ⟨yk, yK, yD⟩ := y
      dsimp only at *
      subst z1 z2
      subst hyk
      clear hkt
      obtain ⟨yo, ys, yu, ya, yc, yr⟩ := yk
      dsimp only at *
      obtain ⟨m1, hm1⟩ : ∃ m, ya.length = m := ⟨_, rfl⟩
      obtain ⟨m2, hm2⟩ : ∃ m, yr.length = m := ⟨_, rfl⟩
      rw [hm1, hm2]
      clear hm1 hm2
      have LF_1 := Lib.hid ((Lies.below LF.out hb LF.out.lt).alloc (.cells #[.int .u32 (yo : Int), .int .i64 ys, .bool yu, .slice E1 m1 d1, .int .i64 yc, .slice E2 m2 d2] 34))
      have LN_1 := Lib.hid ((Lies.below LN.out hb LN.out.lt).alloc (.cells #[.int .u32 (yo : Int), .int .i64 ys, .bool yu, .slice E1 m1 d1, .int .i64 yc, .slice E2 m2 d2] 34))
      have LR_1 := Lib.hid ((Lies.below LR.out hb LR.out.lt).alloc (.cells #[.int .u32 (yo : Int), .int .i64 ys, .bool yu, .slice E1 m1 d1, .int .i64 yc, .slice E2 m2 d2] 34))
      have BB_1 := Lib.hid ((BB.out.trans (hb.mono BB.out.size)).alloc (BB.out.trans (hb.mono BB.out.size)).size (.cells #[.int .u32 (yo : Int), .int .i64 ys, .bool yu, .slice E1 m1 d1, .int .i64 yc, .slice E2 m2 d2] 34))
      have LN1_1 := Lib.hid (Lies.made w1 34 #[.int .u32 (yo : Int), .int .i64 ys, .bool yu, .slice E1 m1 d1, .int .i64 yc, .slice E2 m2 d2])
      clear hb
      obtain ⟨c0_0, c0_1⟩ := LF_1.out.cells2
      obtain ⟨f0_0, f0_1⟩ := LF_1.out.free2
      obtain ⟨c1_0, c1_1, c1_2, c1_3, c1_4, c1_5, c1_6, c1_7, c1_8, c1_9, c1_10⟩ := LN_1.out.cells11
      obtain ⟨f1_0, f1_1, f1_2, f1_3, f1_4, f1_5, f1_6, f1_7, f1_8, f1_9, f1_10⟩ := LN_1.out.free11
      obtain ⟨c2_0, c2_1⟩ := LR_1.out.cells2
      obtain ⟨f2_0, f2_1⟩ := LR_1.out.free2
      obtain ⟨c3_0, c3_1, c3_2, c3_3, c3_4, c3_5⟩ := LN1_1.out.cells6
      obtain ⟨f3_0, f3_1, f3_2, f3_3, f3_4, f3_5⟩ := LN1_1.out.free6
      rw [show ((0 : Nat) : Int) = 0 from rfl]
      go_wp2
      exact ret_fence (w.heap.size + 1 + 1) 25 _ rfl rfl (LR_1.out.put2 _ _) rfl rfl ⟨_, fun _ => ⟨kz, .slice none 0 0, .slice none 0 0⟩, rfl, NF.nil _ _ _, (fun i hi => absurd hi (Nat.not_lt_zero i)), below_put2 BB_1.out (by omega) _ _⟩
    · by_cases b2 : 2 < code
      · rw [if_pos (.inl (mayB_no (.inr (.inl b2))))] at HKE
        rw [HKE.out, HKF.out 2 HKE.out (by decide)]
        have e1 : decide (code < 1) = false := by rw [decide_eq_false_iff_not]; omega
        have e2 : decide (2 < code) = true := by rw [decide_eq_true_iff]; omega
        rw [he] at CA
        clear HKE HKF hN hs b1 b2 hE he
        generalize (askS ep n T N).k = ak at *
        generalize (askS ep n T N).act = aa at *
        obtain ⟨kd, e, ol, ls, tk, od, st, un, cd, ky, da⟩ := N
        dsimp only at *
        generalize ky.length = n1 at *
        generalize da.length = n2 at *
        go_enter Try.func27, Try.ntmps27
        go_wp2_with fail
        with_reducible refine (CA.out _ BB.out).mono ?_
        rintro x w1 ⟨y, rfl, hyk, hkt, hb⟩
        obtain ⟨E1, d1, z1, -⟩ := hkt.a
        obtain ⟨E2, d2, z2, -⟩ := hkt.r
        obtain ⟨yk, yK, yD⟩ := y
        dsimp only at *
        subst z1 z2
        subst hyk
        clear hkt
        obtain ⟨yo, ys, yu, ya, yc, yr⟩ := yk
        dsimp only at *
        obtain ⟨m1, hm1⟩ : ∃ m, ya.length = m := ⟨_, rfl⟩
        obtain ⟨m2, hm2⟩ : ∃ m, yr.length = m := ⟨_, rfl⟩
        rw [hm1, hm2]
        clear hm1 hm2
        have LF_1 := Lib.hid ((Lies.below LF.out hb LF.out.lt).alloc (.cells #[.int .u32 (yo : Int), .int .i64 ys, .bool yu, .slice E1 m1 d1, .int .i64 yc, .slice E2 m2 d2] 34))
        have LN_1 := Lib.hid ((Lies.below LN.out hb LN.out.lt).alloc (.cells #[.int .u32 (yo : Int), .int .i64 ys, .bool yu, .slice E1 m1 d1, .int .i64 yc, .slice E2 m2 d2] 34))
        have LR_1 := Lib.hid ((Lies.below LR.out hb LR.out.lt).alloc (.cells #[.int .u32 (yo : Int), .int .i64 ys, .bool yu, .slice E1 m1 d1, .int .i64 yc, .slice E2 m2 d2] 34))
        have BB_1 := Lib.hid ((BB.out.trans (hb.mono BB.out.size)).alloc (BB.out.trans (hb.mono BB.out.size)).size (.cells #[.int .u32 (yo : Int), .int .i64 ys, .bool yu, .slice E1 m1 d1, .int .i64 yc, .slice E2 m2 d2] 34))
        have LN1_1 := Lib.hid (Lies.made w1 34 #[.int .u32 (yo : Int), .int .i64 ys, .bool yu, .slice E1 m1 d1, .int .i64 yc, .slice E2 m2 d2])
        clear hb
        obtain ⟨c0_0, c0_1⟩ := LF_1.out.cells2
        obtain ⟨f0_0, f0_1⟩ := LF_1.out.free2
        obtain ⟨c1_0, c1_1, c1_2, c1_3, c1_4, c1_5, c1_6, c1_7, c1_8, c1_9, c1_10⟩ := LN_1.out.cells11
        obtain ⟨f1_0, f1_1, f1_2, f1_3, f1_4, f1_5, f1_6, f1_7, f1_8, f1_9, f1_10⟩ := LN_1.out.free11
        obtain ⟨c2_0, c2_1⟩ := LR_1.out.cells2
        obtain ⟨f2_0, f2_1⟩ := LR_1.out.free2
        obtain ⟨c3_0, c3_1, c3_2, c3_3, c3_4, c3_5⟩ := LN1_1.out.cells6
        obtain ⟨f3_0, f3_1, f3_2, f3_3, f3_4, f3_5⟩ := LN1_1.out.free6
        rw [show ((0 : Nat) : Int) = 0 from rfl]
        go_wp2
        exact ret_fence (w.heap.size + 1 + 1) 25 _ rfl rfl (LR_1.out.put2 _ _) rfl rfl ⟨_, fun _ => ⟨kz, .slice none 0 0, .slice none 0 0⟩, rfl, NF.nil _ _ _, (fun i hi => absurd hi (Nat.not_lt_zero i)), below_put2 BB_1.out (by omega) _ _⟩
      · by_cases b3 : 255 < reply.length
        · rw [if_pos (.inr b3)] at HKE
          rw [HKE.out, HKF.out 2 HKE.out (by decide)]
          have e1 : decide (code < 1) = false := by rw [decide_eq_false_iff_not]; omega
          have e2 : decide (2 < code) = false := by rw [decide_eq_false_iff_not]; omega
          have e3 : decide ((255 : Int) < (n3 : Int)) = true := by rw [decide_eq_true_iff, ← HL.out]; omega
          have e3b : decide (255 < n3) = true := by rw [decide_eq_true_iff, ← HL.out]; omega
          rw [he] at CA
          clear HKE HKF hN hs b1 b2 b3 hE he
          generalize (askS ep n T N).k = ak at *
          generalize (askS ep n T N).act = aa at *
          obtain ⟨kd, e, ol, ls, tk, od, st, un, cd, ky, da⟩ := N
          dsimp only at *
          generalize ky.length = n1 at *
          generalize da.length = n2 at *
          go_enter Try.func27, Try.ntmps27
          go_wp2_with fail
          with_reducible refine (CA.out _ BB.out).mono ?_
          rintro x w1 ⟨y, rfl, hyk, hkt, hb⟩
          obtain ⟨E1, d1, z1, -⟩ := hkt.a
          obtain ⟨E2, d2, z2, -⟩ := hkt.r
          obtain ⟨yk, yK, yD⟩ := y
          dsimp only at *
          subst z1 z2
          subst hyk
          clear hkt
          obtain ⟨yo, ys, yu, ya, yc, yr⟩ := yk
          dsimp only at *
          obtain ⟨m1, hm1⟩ : ∃ m, ya.length = m := ⟨_, rfl⟩
          obtain ⟨m2, hm2⟩ : ∃ m, yr.length = m := ⟨_, rfl⟩
          rw [hm1, hm2]
          clear hm1 hm2
          have LF_1 := Lib.hid ((Lies.below LF.out hb LF.out.lt).alloc (.cells #[.int .u32 (yo : Int), .int .i64 ys, .bool yu, .slice E1 m1 d1, .int .i64 yc, .slice E2 m2 d2] 34))
          have LN_1 := Lib.hid ((Lies.below LN.out hb LN.out.lt).alloc (.cells #[.int .u32 (yo : Int), .int .i64 ys, .bool yu, .slice E1 m1 d1, .int .i64 yc, .slice E2 m2 d2] 34))
          have LR_1 := Lib.hid ((Lies.below LR.out hb LR.out.lt).alloc (.cells #[.int .u32 (yo : Int), .int .i64 ys, .bool yu, .slice E1 m1 d1, .int .i64 yc, .slice E2 m2 d2] 34))
          have BB_1 := Lib.hid ((BB.out.trans (hb.mono BB.out.size)).alloc (BB.out.trans (hb.mono BB.out.size)).size (.cells #[.int .u32 (yo : Int), .int .i64 ys, .bool yu, .slice E1 m1 d1, .int .i64 yc, .slice E2 m2 d2] 34))
          have LN1_1 := Lib.hid (Lies.made w1 34 #[.int .u32 (yo : Int), .int .i64 ys, .bool yu, .slice E1 m1 d1, .int .i64 yc, .slice E2 m2 d2])
          clear hb
          obtain ⟨c0_0, c0_1⟩ := LF_1.out.cells2
          obtain ⟨f0_0, f0_1⟩ := LF_1.out.free2
          obtain ⟨c1_0, c1_1, c1_2, c1_3, c1_4, c1_5, c1_6, c1_7, c1_8, c1_9, c1_10⟩ := LN_1.out.cells11
          obtain ⟨f1_0, f1_1, f1_2, f1_3, f1_4, f1_5, f1_6, f1_7, f1_8, f1_9, f1_10⟩ := LN_1.out.free11
          obtain ⟨c2_0, c2_1⟩ := LR_1.out.cells2
          obtain ⟨f2_0, f2_1⟩ := LR_1.out.free2
          obtain ⟨c3_0, c3_1, c3_2, c3_3, c3_4, c3_5⟩ := LN1_1.out.cells6
          obtain ⟨f3_0, f3_1, f3_2, f3_3, f3_4, f3_5⟩ := LN1_1.out.free6
          rw [show ((0 : Nat) : Int) = 0 from rfl]
          go_wp2
          exact ret_fence (w.heap.size + 1 + 1) 25 _ rfl rfl (LR_1.out.put2 _ _) rfl rfl ⟨_, fun _ => ⟨kz, .slice none 0 0, .slice none 0 0⟩, rfl, NF.nil _ _ _, (fun i hi => absurd hi (Nat.not_lt_zero i)), below_put2 BB_1.out (by omega) _ _⟩
        · by_cases b4 : (askS ep n T N).act = 3 ∧ code ≠ 2
          · rw [if_pos (.inl (mayB_no (.inr (.inr (.inl b4)))))] at HKE
            rw [HKE.out, HKF.out 2 HKE.out (by decide)]
            have e1 : decide (code < 1) = false := by rw [decide_eq_false_iff_not]; omega
            have e2 : decide (2 < code) = false := by rw [decide_eq_false_iff_not]; omega
            have e3 : decide ((255 : Int) < (n3 : Int)) = false := by rw [decide_eq_false_iff_not, ← HL.out]; omega
            have e3b : decide (255 < n3) = false := by rw [decide_eq_false_iff_not, ← HL.out]; omega
            have e4 : (((askS ep n T N).act : Int) == 3) = true := by simp; omega
            have e5 : (code != 2) = true := by simpa using b4.2
            rw [he] at CA
            clear HKE HKF hN hs b1 b2 b3 b4 hE he
            generalize (askS ep n T N).k = ak at *
            generalize (askS ep n T N).act = aa at *
            obtain ⟨kd, e, ol, ls, tk, od, st, un, cd, ky, da⟩ := N
            dsimp only at *
            generalize ky.length = n1 at *
            generalize da.length = n2 at *
            go_enter Try.func27, Try.ntmps27
            go_wp2_with fail
            with_reducible refine (CA.out _ BB.out).mono ?_
            rintro x w1 ⟨y, rfl, hyk, hkt, hb⟩
            obtain ⟨E1, d1, z1, -⟩ := hkt.a
            obtain ⟨E2, d2, z2, -⟩ := hkt.r
            obtain ⟨yk, yK, yD⟩ := y
            dsimp only at *
            subst z1 z2
            subst hyk
            clear hkt
            obtain ⟨yo, ys, yu, ya, yc, yr⟩ := yk
            dsimp only at *
            obtain ⟨m1, hm1⟩ : ∃ m, ya.length = m := ⟨_, rfl⟩
            obtain ⟨m2, hm2⟩ : ∃ m, yr.length = m := ⟨_, rfl⟩
            rw [hm1, hm2]
            clear hm1 hm2
            have LF_1 := Lib.hid ((Lies.below LF.out hb LF.out.lt).alloc (.cells #[.int .u32 (yo : Int), .int .i64 ys, .bool yu, .slice E1 m1 d1, .int .i64 yc, .slice E2 m2 d2] 34))
            have LN_1 := Lib.hid ((Lies.below LN.out hb LN.out.lt).alloc (.cells #[.int .u32 (yo : Int), .int .i64 ys, .bool yu, .slice E1 m1 d1, .int .i64 yc, .slice E2 m2 d2] 34))
            have LR_1 := Lib.hid ((Lies.below LR.out hb LR.out.lt).alloc (.cells #[.int .u32 (yo : Int), .int .i64 ys, .bool yu, .slice E1 m1 d1, .int .i64 yc, .slice E2 m2 d2] 34))
            have BB_1 := Lib.hid ((BB.out.trans (hb.mono BB.out.size)).alloc (BB.out.trans (hb.mono BB.out.size)).size (.cells #[.int .u32 (yo : Int), .int .i64 ys, .bool yu, .slice E1 m1 d1, .int .i64 yc, .slice E2 m2 d2] 34))
            have LN1_1 := Lib.hid (Lies.made w1 34 #[.int .u32 (yo : Int), .int .i64 ys, .bool yu, .slice E1 m1 d1, .int .i64 yc, .slice E2 m2 d2])
            clear hb
            obtain ⟨c0_0, c0_1⟩ := LF_1.out.cells2
            obtain ⟨f0_0, f0_1⟩ := LF_1.out.free2
            obtain ⟨c1_0, c1_1, c1_2, c1_3, c1_4, c1_5, c1_6, c1_7, c1_8, c1_9, c1_10⟩ := LN_1.out.cells11
            obtain ⟨f1_0, f1_1, f1_2, f1_3, f1_4, f1_5, f1_6, f1_7, f1_8, f1_9, f1_10⟩ := LN_1.out.free11
            obtain ⟨c2_0, c2_1⟩ := LR_1.out.cells2
            obtain ⟨f2_0, f2_1⟩ := LR_1.out.free2
            obtain ⟨c3_0, c3_1, c3_2, c3_3, c3_4, c3_5⟩ := LN1_1.out.cells6
            obtain ⟨f3_0, f3_1, f3_2, f3_3, f3_4, f3_5⟩ := LN1_1.out.free6
            rw [show ((0 : Nat) : Int) = 0 from rfl]
            go_wp2
            exact ret_fence (w.heap.size + 1 + 1) 25 _ rfl rfl (LR_1.out.put2 _ _) rfl rfl ⟨_, fun _ => ⟨kz, .slice none 0 0, .slice none 0 0⟩, rfl, NF.nil _ _ _, (fun i hi => absurd hi (Nat.not_lt_zero i)), below_put2 BB_1.out (by omega) _ _⟩
          · by_cases b5 : (askS ep n T N).act = 4 ∧ code ≠ 1
            · rw [if_pos (.inl (mayB_no (.inr (.inr (.inr b5)))))] at HKE
              rw [HKE.out, HKF.out 2 HKE.out (by decide)]
              have e1 : decide (code < 1) = false := by rw [decide_eq_false_iff_not]; omega
              have e2 : decide (2 < code) = false := by rw [decide_eq_false_iff_not]; omega
              have e3 : decide ((255 : Int) < (n3 : Int)) = false := by rw [decide_eq_false_iff_not, ← HL.out]; omega
              have e3b : decide (255 < n3) = false := by rw [decide_eq_false_iff_not, ← HL.out]; omega
              have e4 : (((askS ep n T N).act : Int) == 3) = false := by simp; omega
              have e6 : (((askS ep n T N).act : Int) == 4) = true := by simp; omega
              have e7 : (code != 1) = true := by simpa using b5.2
              rw [he] at CA
              clear HKE HKF hN hs b1 b2 b3 b4 b5 hE he
              generalize (askS ep n T N).k = ak at *
              generalize (askS ep n T N).act = aa at *
              obtain ⟨kd, e, ol, ls, tk, od, st, un, cd, ky, da⟩ := N
              dsimp only at *
              generalize ky.length = n1 at *
              generalize da.length = n2 at *
              go_enter Try.func27, Try.ntmps27
              go_wp2_with fail
              with_reducible refine (CA.out _ BB.out).mono ?_
              rintro x w1 ⟨y, rfl, hyk, hkt, hb⟩
              obtain ⟨E1, d1, z1, -⟩ := hkt.a
              obtain ⟨E2, d2, z2, -⟩ := hkt.r
              obtain ⟨yk, yK, yD⟩ := y
              dsimp only at *
              subst z1 z2
              subst hyk
              clear hkt
              obtain ⟨yo, ys, yu, ya, yc, yr⟩ := yk
              dsimp only at *
              obtain ⟨m1, hm1⟩ : ∃ m, ya.length = m := ⟨_, rfl⟩
              obtain ⟨m2, hm2⟩ : ∃ m, yr.length = m := ⟨_, rfl⟩
              rw [hm1, hm2]
              clear hm1 hm2
              have LF_1 := Lib.hid ((Lies.below LF.out hb LF.out.lt).alloc (.cells #[.int .u32 (yo : Int), .int .i64 ys, .bool yu, .slice E1 m1 d1, .int .i64 yc, .slice E2 m2 d2] 34))
              have LN_1 := Lib.hid ((Lies.below LN.out hb LN.out.lt).alloc (.cells #[.int .u32 (yo : Int), .int .i64 ys, .bool yu, .slice E1 m1 d1, .int .i64 yc, .slice E2 m2 d2] 34))
              have LR_1 := Lib.hid ((Lies.below LR.out hb LR.out.lt).alloc (.cells #[.int .u32 (yo : Int), .int .i64 ys, .bool yu, .slice E1 m1 d1, .int .i64 yc, .slice E2 m2 d2] 34))
              have BB_1 := Lib.hid ((BB.out.trans (hb.mono BB.out.size)).alloc (BB.out.trans (hb.mono BB.out.size)).size (.cells #[.int .u32 (yo : Int), .int .i64 ys, .bool yu, .slice E1 m1 d1, .int .i64 yc, .slice E2 m2 d2] 34))
              have LN1_1 := Lib.hid (Lies.made w1 34 #[.int .u32 (yo : Int), .int .i64 ys, .bool yu, .slice E1 m1 d1, .int .i64 yc, .slice E2 m2 d2])
              clear hb
              obtain ⟨c0_0, c0_1⟩ := LF_1.out.cells2
              obtain ⟨f0_0, f0_1⟩ := LF_1.out.free2
              obtain ⟨c1_0, c1_1, c1_2, c1_3, c1_4, c1_5, c1_6, c1_7, c1_8, c1_9, c1_10⟩ := LN_1.out.cells11
              obtain ⟨f1_0, f1_1, f1_2, f1_3, f1_4, f1_5, f1_6, f1_7, f1_8, f1_9, f1_10⟩ := LN_1.out.free11
              obtain ⟨c2_0, c2_1⟩ := LR_1.out.cells2
              obtain ⟨f2_0, f2_1⟩ := LR_1.out.free2
              obtain ⟨c3_0, c3_1, c3_2, c3_3, c3_4, c3_5⟩ := LN1_1.out.cells6
              obtain ⟨f3_0, f3_1, f3_2, f3_3, f3_4, f3_5⟩ := LN1_1.out.free6
              rw [show ((0 : Nat) : Int) = 0 from rfl]
              go_wp2
              exact ret_fence (w.heap.size + 1 + 1) 25 _ rfl rfl (LR_1.out.put2 _ _) rfl rfl ⟨_, fun _ => ⟨kz, .slice none 0 0, .slice none 0 0⟩, rfl, NF.nil _ _ _, (fun i hi => absurd hi (Nat.not_lt_zero i)), below_put2 BB_1.out (by omega) _ _⟩
            · rw [if_neg (by rw [mayB_of (act := (askS ep n T N).act) (code := code) (by omega) (by omega) (by omega) (by omega)]; simp; omega)] at HKE
              by_cases b6 : (askS ep n T N).act = 2
              · rw [if_pos b6] at HKE
                rw [HKE.out, HKF.out 81 HKE.out (by decide)]
                have e1 : decide (code < 1) = false := by rw [decide_eq_false_iff_not]; omega
                have e2 : decide (2 < code) = false := by rw [decide_eq_false_iff_not]; omega
                have e3 : decide ((255 : Int) < (n3 : Int)) = false := by rw [decide_eq_false_iff_not, ← HL.out]; omega
                have e3b : decide (255 < n3) = false := by rw [decide_eq_false_iff_not, ← HL.out]; omega
                have e4 : (((askS ep n T N).act : Int) == 3) = false := by simp; omega
                have e6 : (((askS ep n T N).act : Int) == 4) = false := by simp; omega
                have e8 : (((askS ep n T N).act : Int) == 2) = true := by simp; omega
                rw [he] at CA
                clear HKE HKF hN hs b1 b2 b3 b4 b5 b6 hE he
                generalize (askS ep n T N).k = ak at *
                generalize (askS ep n T N).act = aa at *
                obtain ⟨kd, e, ol, ls, tk, od, st, un, cd, ky, da⟩ := N
                dsimp only at *
                generalize ky.length = n1 at *
                generalize da.length = n2 at *
                go_enter Try.func27, Try.ntmps27
                go_wp2_with fail
                with_reducible refine (CA.out _ BB.out).mono ?_
                rintro x w1 ⟨y, rfl, hyk, hkt, hb⟩
                obtain ⟨E1, d1, z1, -⟩ := hkt.a
                obtain ⟨E2, d2, z2, -⟩ := hkt.r
                obtain ⟨yk, yK, yD⟩ := y
                dsimp only at *
                subst z1 z2
                subst hyk
                clear hkt
                obtain ⟨yo, ys, yu, ya, yc, yr⟩ := yk
                dsimp only at *
                obtain ⟨m1, hm1⟩ : ∃ m, ya.length = m := ⟨_, rfl⟩
                obtain ⟨m2, hm2⟩ : ∃ m, yr.length = m := ⟨_, rfl⟩
                rw [hm1, hm2]
                clear hm1 hm2
                have LF_1 := Lib.hid ((Lies.below LF.out hb LF.out.lt).alloc (.cells #[.int .u32 (yo : Int), .int .i64 ys, .bool yu, .slice E1 m1 d1, .int .i64 yc, .slice E2 m2 d2] 34))
                have LN_1 := Lib.hid ((Lies.below LN.out hb LN.out.lt).alloc (.cells #[.int .u32 (yo : Int), .int .i64 ys, .bool yu, .slice E1 m1 d1, .int .i64 yc, .slice E2 m2 d2] 34))
                have LR_1 := Lib.hid ((Lies.below LR.out hb LR.out.lt).alloc (.cells #[.int .u32 (yo : Int), .int .i64 ys, .bool yu, .slice E1 m1 d1, .int .i64 yc, .slice E2 m2 d2] 34))
                have BB_1 := Lib.hid ((BB.out.trans (hb.mono BB.out.size)).alloc (BB.out.trans (hb.mono BB.out.size)).size (.cells #[.int .u32 (yo : Int), .int .i64 ys, .bool yu, .slice E1 m1 d1, .int .i64 yc, .slice E2 m2 d2] 34))
                have LN1_1 := Lib.hid (Lies.made w1 34 #[.int .u32 (yo : Int), .int .i64 ys, .bool yu, .slice E1 m1 d1, .int .i64 yc, .slice E2 m2 d2])
                clear hb
                obtain ⟨c0_0, c0_1⟩ := LF_1.out.cells2
                obtain ⟨f0_0, f0_1⟩ := LF_1.out.free2
                obtain ⟨c1_0, c1_1, c1_2, c1_3, c1_4, c1_5, c1_6, c1_7, c1_8, c1_9, c1_10⟩ := LN_1.out.cells11
                obtain ⟨f1_0, f1_1, f1_2, f1_3, f1_4, f1_5, f1_6, f1_7, f1_8, f1_9, f1_10⟩ := LN_1.out.free11
                obtain ⟨c2_0, c2_1⟩ := LR_1.out.cells2
                obtain ⟨f2_0, f2_1⟩ := LR_1.out.free2
                obtain ⟨c3_0, c3_1, c3_2, c3_3, c3_4, c3_5⟩ := LN1_1.out.cells6
                obtain ⟨f3_0, f3_1, f3_2, f3_3, f3_4, f3_5⟩ := LN1_1.out.free6
                rw [show ((0 : Nat) : Int) = 0 from rfl]
                go_wp2
                exact ret_fence (w.heap.size + 1 + 1) 25 _ rfl rfl (LR_1.out.put2 _ _) rfl rfl ⟨_, fun _ => ⟨kz, .slice none 0 0, .slice none 0 0⟩, rfl, NF.nil _ _ _, (fun i hi => absurd hi (Nat.not_lt_zero i)), below_put2 BB_1.out (by omega) _ _⟩
              · rw [if_neg b6] at HKE
                have h200 : n = 200 := by
                  refine Classical.byContradiction fun h => hE ?_
                  rw [HKE.out, if_neg h]
                rw [if_pos h200] at HKE
                have d5 : ((n : Int) == 200) = true := by simp; omega
                have d5b : (n == 200) = true := by simpa using h200
                have e8 : (((askS ep n T N).act : Int) == 2) = false := by simp; omega
                by_cases b7 : (askS ep n T N).act = 3
                · have e4 : (((askS ep n T N).act : Int) == 3) = true := by simp; omega
                  have e5 : (code != 2) = false := by simp; omega
                  have e6 : (((askS ep n T N).act : Int) == 4) = false := by simp; omega
                  rw [HKE.out, HKF.out 5 HKE.out (by decide)]
                  have e1 : decide (code < 1) = false := by rw [decide_eq_false_iff_not]; omega
                  have e2 : decide (2 < code) = false := by rw [decide_eq_false_iff_not]; omega
                  have e3 : decide ((255 : Int) < (n3 : Int)) = false := by rw [decide_eq_false_iff_not, ← HL.out]; omega
                  have e3b : decide (255 < n3) = false := by rw [decide_eq_false_iff_not, ← HL.out]; omega
                  rw [he] at CA
                  clear HKE HKF hN hs b1 b2 b3 b4 b5 b6 b7 h200 hE he
                  generalize (askS ep n T N).k = ak at *
                  generalize (askS ep n T N).act = aa at *
                  obtain ⟨kd, e, ol, ls, tk, od, st, un, cd, ky, da⟩ := N
                  dsimp only at *
                  generalize ky.length = n1 at *
                  generalize da.length = n2 at *
                  go_enter Try.func27, Try.ntmps27
                  go_wp2_with fail
                  with_reducible refine (CA.out _ BB.out).mono ?_
                  rintro x w1 ⟨y, rfl, hyk, hkt, hb⟩
                  obtain ⟨E1, d1, z1, -⟩ := hkt.a
                  obtain ⟨E2, d2, z2, -⟩ := hkt.r
                  obtain ⟨yk, yK, yD⟩ := y
                  dsimp only at *
                  subst z1 z2
                  subst hyk
                  clear hkt
                  obtain ⟨yo, ys, yu, ya, yc, yr⟩ := yk
                  dsimp only at *
                  obtain ⟨m1, hm1⟩ : ∃ m, ya.length = m := ⟨_, rfl⟩
                  obtain ⟨m2, hm2⟩ : ∃ m, yr.length = m := ⟨_, rfl⟩
                  rw [hm1, hm2]
                  clear hm1 hm2
                  have LF_1 := Lib.hid ((Lies.below LF.out hb LF.out.lt).alloc (.cells #[.int .u32 (yo : Int), .int .i64 ys, .bool yu, .slice E1 m1 d1, .int .i64 yc, .slice E2 m2 d2] 34))
                  have LN_1 := Lib.hid ((Lies.below LN.out hb LN.out.lt).alloc (.cells #[.int .u32 (yo : Int), .int .i64 ys, .bool yu, .slice E1 m1 d1, .int .i64 yc, .slice E2 m2 d2] 34))
                  have LR_1 := Lib.hid ((Lies.below LR.out hb LR.out.lt).alloc (.cells #[.int .u32 (yo : Int), .int .i64 ys, .bool yu, .slice E1 m1 d1, .int .i64 yc, .slice E2 m2 d2] 34))
                  have BB_1 := Lib.hid ((BB.out.trans (hb.mono BB.out.size)).alloc (BB.out.trans (hb.mono BB.out.size)).size (.cells #[.int .u32 (yo : Int), .int .i64 ys, .bool yu, .slice E1 m1 d1, .int .i64 yc, .slice E2 m2 d2] 34))
                  have LN1_1 := Lib.hid (Lies.made w1 34 #[.int .u32 (yo : Int), .int .i64 ys, .bool yu, .slice E1 m1 d1, .int .i64 yc, .slice E2 m2 d2])
                  clear hb
                  obtain ⟨c0_0, c0_1⟩ := LF_1.out.cells2
                  obtain ⟨f0_0, f0_1⟩ := LF_1.out.free2
                  obtain ⟨c1_0, c1_1, c1_2, c1_3, c1_4, c1_5, c1_6, c1_7, c1_8, c1_9, c1_10⟩ := LN_1.out.cells11
                  obtain ⟨f1_0, f1_1, f1_2, f1_3, f1_4, f1_5, f1_6, f1_7, f1_8, f1_9, f1_10⟩ := LN_1.out.free11
                  obtain ⟨c2_0, c2_1⟩ := LR_1.out.cells2
                  obtain ⟨f2_0, f2_1⟩ := LR_1.out.free2
                  obtain ⟨c3_0, c3_1, c3_2, c3_3, c3_4, c3_5⟩ := LN1_1.out.cells6
                  obtain ⟨f3_0, f3_1, f3_2, f3_3, f3_4, f3_5⟩ := LN1_1.out.free6
                  rw [show ((0 : Nat) : Int) = 0 from rfl]
                  go_wp2
                  exact ret_fence (w.heap.size + 1 + 1) 25 _ rfl rfl (LR_1.out.put2 _ _) rfl rfl ⟨_, fun _ => ⟨kz, .slice none 0 0, .slice none 0 0⟩, rfl, NF.nil _ _ _, (fun i hi => absurd hi (Nat.not_lt_zero i)), below_put2 BB_1.out (by omega) _ _⟩
                · have e4 : (((askS ep n T N).act : Int) == 3) = false := by simp; omega
                  by_cases b8 : (askS ep n T N).act = 4
                  · have e6 : (((askS ep n T N).act : Int) == 4) = true := by simp; omega
                    have e7 : (code != 1) = false := by simp; omega
                    rw [HKE.out, HKF.out 5 HKE.out (by decide)]
                    have e1 : decide (code < 1) = false := by rw [decide_eq_false_iff_not]; omega
                    have e2 : decide (2 < code) = false := by rw [decide_eq_false_iff_not]; omega
                    have e3 : decide ((255 : Int) < (n3 : Int)) = false := by rw [decide_eq_false_iff_not, ← HL.out]; omega
                    have e3b : decide (255 < n3) = false := by rw [decide_eq_false_iff_not, ← HL.out]; omega
                    rw [he] at CA
                    clear HKE HKF hN hs b1 b2 b3 b4 b5 b6 b7 b8 h200 hE he
                    generalize (askS ep n T N).k = ak at *
                    generalize (askS ep n T N).act = aa at *
                    obtain ⟨kd, e, ol, ls, tk, od, st, un, cd, ky, da⟩ := N
                    dsimp only at *
                    generalize ky.length = n1 at *
                    generalize da.length = n2 at *
                    go_enter Try.func27, Try.ntmps27
                    go_wp2_with fail
                    with_reducible refine (CA.out _ BB.out).mono ?_
                    rintro x w1 ⟨y, rfl, hyk, hkt, hb⟩
                    obtain ⟨E1, d1, z1, -⟩ := hkt.a
                    obtain ⟨E2, d2, z2, -⟩ := hkt.r
                    obtain ⟨yk, yK, yD⟩ := y
                    dsimp only at *
                    subst z1 z2
                    subst hyk
                    clear hkt
                    obtain ⟨yo, ys, yu, ya, yc, yr⟩ := yk
                    dsimp only at *
                    obtain ⟨m1, hm1⟩ : ∃ m, ya.length = m := ⟨_, rfl⟩
                    obtain ⟨m2, hm2⟩ : ∃ m, yr.length = m := ⟨_, rfl⟩
                    rw [hm1, hm2]
                    clear hm1 hm2
                    have LF_1 := Lib.hid ((Lies.below LF.out hb LF.out.lt).alloc (.cells #[.int .u32 (yo : Int), .int .i64 ys, .bool yu, .slice E1 m1 d1, .int .i64 yc, .slice E2 m2 d2] 34))
                    have LN_1 := Lib.hid ((Lies.below LN.out hb LN.out.lt).alloc (.cells #[.int .u32 (yo : Int), .int .i64 ys, .bool yu, .slice E1 m1 d1, .int .i64 yc, .slice E2 m2 d2] 34))
                    have LR_1 := Lib.hid ((Lies.below LR.out hb LR.out.lt).alloc (.cells #[.int .u32 (yo : Int), .int .i64 ys, .bool yu, .slice E1 m1 d1, .int .i64 yc, .slice E2 m2 d2] 34))
                    have BB_1 := Lib.hid ((BB.out.trans (hb.mono BB.out.size)).alloc (BB.out.trans (hb.mono BB.out.size)).size (.cells #[.int .u32 (yo : Int), .int .i64 ys, .bool yu, .slice E1 m1 d1, .int .i64 yc, .slice E2 m2 d2] 34))
                    have LN1_1 := Lib.hid (Lies.made w1 34 #[.int .u32 (yo : Int), .int .i64 ys, .bool yu, .slice E1 m1 d1, .int .i64 yc, .slice E2 m2 d2])
                    clear hb
                    obtain ⟨c0_0, c0_1⟩ := LF_1.out.cells2
                    obtain ⟨f0_0, f0_1⟩ := LF_1.out.free2
                    obtain ⟨c1_0, c1_1, c1_2, c1_3, c1_4, c1_5, c1_6, c1_7, c1_8, c1_9, c1_10⟩ := LN_1.out.cells11
                    obtain ⟨f1_0, f1_1, f1_2, f1_3, f1_4, f1_5, f1_6, f1_7, f1_8, f1_9, f1_10⟩ := LN_1.out.free11
                    obtain ⟨c2_0, c2_1⟩ := LR_1.out.cells2
                    obtain ⟨f2_0, f2_1⟩ := LR_1.out.free2
                    obtain ⟨c3_0, c3_1, c3_2, c3_3, c3_4, c3_5⟩ := LN1_1.out.cells6
                    obtain ⟨f3_0, f3_1, f3_2, f3_3, f3_4, f3_5⟩ := LN1_1.out.free6
                    rw [show ((0 : Nat) : Int) = 0 from rfl]
                    go_wp2
                    exact ret_fence (w.heap.size + 1 + 1) 25 _ rfl rfl (LR_1.out.put2 _ _) rfl rfl ⟨_, fun _ => ⟨kz, .slice none 0 0, .slice none 0 0⟩, rfl, NF.nil _ _ _, (fun i hi => absurd hi (Nat.not_lt_zero i)), below_put2 BB_1.out (by omega) _ _⟩
                  · have e6 : (((askS ep n T N).act : Int) == 4) = false := by simp; omega
                    rw [HKE.out, HKF.out 5 HKE.out (by decide)]
                    have e1 : decide (code < 1) = false := by rw [decide_eq_false_iff_not]; omega
                    have e2 : decide (2 < code) = false := by rw [decide_eq_false_iff_not]; omega
                    have e3 : decide ((255 : Int) < (n3 : Int)) = false := by rw [decide_eq_false_iff_not, ← HL.out]; omega
                    have e3b : decide (255 < n3) = false := by rw [decide_eq_false_iff_not, ← HL.out]; omega
                    rw [he] at CA
                    clear HKE HKF hN hs b1 b2 b3 b4 b5 b6 b7 b8 h200 hE he
                    generalize (askS ep n T N).k = ak at *
                    generalize (askS ep n T N).act = aa at *
                    obtain ⟨kd, e, ol, ls, tk, od, st, un, cd, ky, da⟩ := N
                    dsimp only at *
                    generalize ky.length = n1 at *
                    generalize da.length = n2 at *
                    go_enter Try.func27, Try.ntmps27
                    go_wp2_with fail
                    with_reducible refine (CA.out _ BB.out).mono ?_
                    rintro x w1 ⟨y, rfl, hyk, hkt, hb⟩
                    obtain ⟨E1, d1, z1, -⟩ := hkt.a
                    obtain ⟨E2, d2, z2, -⟩ := hkt.r
                    obtain ⟨yk, yK, yD⟩ := y
                    dsimp only at *
                    subst z1 z2
                    subst hyk
                    clear hkt
                    obtain ⟨yo, ys, yu, ya, yc, yr⟩ := yk
                    dsimp only at *
                    obtain ⟨m1, hm1⟩ : ∃ m, ya.length = m := ⟨_, rfl⟩
                    obtain ⟨m2, hm2⟩ : ∃ m, yr.length = m := ⟨_, rfl⟩
                    rw [hm1, hm2]
                    clear hm1 hm2
                    have LF_1 := Lib.hid ((Lies.below LF.out hb LF.out.lt).alloc (.cells #[.int .u32 (yo : Int), .int .i64 ys, .bool yu, .slice E1 m1 d1, .int .i64 yc, .slice E2 m2 d2] 34))
                    have LN_1 := Lib.hid ((Lies.below LN.out hb LN.out.lt).alloc (.cells #[.int .u32 (yo : Int), .int .i64 ys, .bool yu, .slice E1 m1 d1, .int .i64 yc, .slice E2 m2 d2] 34))
                    have LR_1 := Lib.hid ((Lies.below LR.out hb LR.out.lt).alloc (.cells #[.int .u32 (yo : Int), .int .i64 ys, .bool yu, .slice E1 m1 d1, .int .i64 yc, .slice E2 m2 d2] 34))
                    have BB_1 := Lib.hid ((BB.out.trans (hb.mono BB.out.size)).alloc (BB.out.trans (hb.mono BB.out.size)).size (.cells #[.int .u32 (yo : Int), .int .i64 ys, .bool yu, .slice E1 m1 d1, .int .i64 yc, .slice E2 m2 d2] 34))
                    have LN1_1 := Lib.hid (Lies.made w1 34 #[.int .u32 (yo : Int), .int .i64 ys, .bool yu, .slice E1 m1 d1, .int .i64 yc, .slice E2 m2 d2])
                    clear hb
                    obtain ⟨c0_0, c0_1⟩ := LF_1.out.cells2
                    obtain ⟨f0_0, f0_1⟩ := LF_1.out.free2
                    obtain ⟨c1_0, c1_1, c1_2, c1_3, c1_4, c1_5, c1_6, c1_7, c1_8, c1_9, c1_10⟩ := LN_1.out.cells11
                    obtain ⟨f1_0, f1_1, f1_2, f1_3, f1_4, f1_5, f1_6, f1_7, f1_8, f1_9, f1_10⟩ := LN_1.out.free11
                    obtain ⟨c2_0, c2_1⟩ := LR_1.out.cells2
                    obtain ⟨f2_0, f2_1⟩ := LR_1.out.free2
                    obtain ⟨c3_0, c3_1, c3_2, c3_3, c3_4, c3_5⟩ := LN1_1.out.cells6
                    obtain ⟨f3_0, f3_1, f3_2, f3_3, f3_4, f3_5⟩ := LN1_1.out.free6
                    rw [show ((0 : Nat) : Int) = 0 from rfl]
                    go_wp2
                    exact ret_fence (w.heap.size + 1 + 1) 25 _ rfl rfl (LR_1.out.put2 _ _) rfl rfl ⟨_, fun _ => ⟨kz, .slice none 0 0, .slice none 0 0⟩, rfl, NF.nil _ _ _, (fun i hi => absurd hi (Nat.not_lt_zero i)), below_put2 BB_1.out (by omega) _ _⟩
  · rw [if_pos he] at HKE
    rw [HKE.out, HKF.out _ HKE.out he]
    have dz : (((askS ep n T N).e : Int) != 0) = true := by simp; omega
    clear HKE HKF hN hs hE he
    generalize (askS ep n T N).e = ae at *
    generalize (askS ep n T N).k = ak at *
    generalize (askS ep n T N).act = aa at *
    obtain ⟨kd, e, ol, ls, tk, od, st, un, cd, ky, da⟩ := N
    dsimp only at *
    generalize ky.length = n1 at *
    generalize da.length = n2 at *
    go_enter Try.func27, Try.ntmps27
    go_wp2_with fail
    with_reducible refine (CA.out _ BB.out).mono ?_
    rintro x w1 ⟨y, rfl, hyk, hkt, hb⟩
    obtain ⟨E1, d1, z1, -⟩ := hkt.a
    obtain ⟨E2, d2, z2, -⟩ := hkt.r
    obtain ⟨yk, yK, yD⟩ := y
    dsimp only at *
    subst z1 z2
    subst hyk
    clear hkt
    obtain ⟨yo, ys, yu, ya, yc, yr⟩ := yk
    dsimp only at *
    obtain ⟨m1, hm1⟩ : ∃ m, ya.length = m := ⟨_, rfl⟩
    obtain ⟨m2, hm2⟩ : ∃ m, yr.length = m := ⟨_, rfl⟩
    rw [hm1, hm2]
    clear hm1 hm2
    have LF_1 := Lib.hid ((Lies.below LF.out hb LF.out.lt).alloc (.cells #[.int .u32 (yo : Int), .int .i64 ys, .bool yu, .slice E1 m1 d1, .int .i64 yc, .slice E2 m2 d2] 34))
    have LN_1 := Lib.hid ((Lies.below LN.out hb LN.out.lt).alloc (.cells #[.int .u32 (yo : Int), .int .i64 ys, .bool yu, .slice E1 m1 d1, .int .i64 yc, .slice E2 m2 d2] 34))
    have LR_1 := Lib.hid ((Lies.below LR.out hb LR.out.lt).alloc (.cells #[.int .u32 (yo : Int), .int .i64 ys, .bool yu, .slice E1 m1 d1, .int .i64 yc, .slice E2 m2 d2] 34))
    have BB_1 := Lib.hid ((BB.out.trans (hb.mono BB.out.size)).alloc (BB.out.trans (hb.mono BB.out.size)).size (.cells #[.int .u32 (yo : Int), .int .i64 ys, .bool yu, .slice E1 m1 d1, .int .i64 yc, .slice E2 m2 d2] 34))
    have LN1_1 := Lib.hid (Lies.made w1 34 #[.int .u32 (yo : Int), .int .i64 ys, .bool yu, .slice E1 m1 d1, .int .i64 yc, .slice E2 m2 d2])
    clear hb
    obtain ⟨c0_0, c0_1⟩ := LF_1.out.cells2
    obtain ⟨f0_0, f0_1⟩ := LF_1.out.free2
    obtain ⟨c1_0, c1_1, c1_2, c1_3, c1_4, c1_5, c1_6, c1_7, c1_8, c1_9, c1_10⟩ := LN_1.out.cells11
    obtain ⟨f1_0, f1_1, f1_2, f1_3, f1_4, f1_5, f1_6, f1_7, f1_8, f1_9, f1_10⟩ := LN_1.out.free11
    obtain ⟨c2_0, c2_1⟩ := LR_1.out.cells2
    obtain ⟨f2_0, f2_1⟩ := LR_1.out.free2
    obtain ⟨c3_0, c3_1, c3_2, c3_3, c3_4, c3_5⟩ := LN1_1.out.cells6
    obtain ⟨f3_0, f3_1, f3_2, f3_3, f3_4, f3_5⟩ := LN1_1.out.free6
    go_wp2
    refine ret_fence (w.heap.size + 1 + 1) 25 _ rfl rfl (LR_1.out.put2 _ _) rfl rfl ?_
    have hbz := below_put2 BB_1.out (show w.heap.size ≤ w.heap.size + 1 + 1 by omega) (.int .u32 0) (.slice none 0 0)
    exact ⟨_, fun _ => ⟨kz, .slice none 0 0, .slice none 0 0⟩, rfl, NF.nil _ _ _, (fun i hi => absurd hi (Nat.not_lt_zero i)), hbz⟩

end Go.Proofs.Ytfcfejmammohpaa
