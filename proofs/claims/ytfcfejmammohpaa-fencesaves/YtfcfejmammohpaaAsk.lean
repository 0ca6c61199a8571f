/-
  The contract of Ask.
-/
import Derived.Test.YtfcfejmammohpaaAskP
import Derived.Test.YtfcfejmammohpaaNVal
import Derived.Deep.RegionHeld3
namespace Go.Proofs.Ytfcfejmammohpaa
open Go.RowKit
set_option maxRecDepth 100000
set_option linter.unusedVariables false
set_option linter.unusedSimpArgs false

/-- What Ask answers. -/
def AskPost (w : World) (a : An) (x : Ending) (w' : World) : Prop := ∃ y, x = .returned (.tuple #[.int .i64 (a.act : Nat), .agg (kc y), .int .i64 (a.e : Nat)]) ∧ NewK w' w.heap.size a.k y ∧ Below w.heap.size w w'
theorem Bys.belowD {w w' : World} {a : Option Addr} {n : Nat} {l : List Nat} (h : Bys w a n l) (hb : Below w.heap.size w w') : Bys w' a n l := h.below hb
set_option maxHeartbeats 16000000 in
theorem ask_any (ep : Nat) (A : Option Addr) (n c : Nat) (T : Nat → Kp) (N : Note) (A1 A2 : Option Addr) (c1 c2 : Nat) (w : World) (hF : FV w A n c T) (hN : EntV w N A1 A2 c1 c2) (hs : in64 N.step) (hep : ep < 4294967296) :
    Calls Try.prog 14 #[.agg #[.int .u32 (ep : Int), .slice A n c], .agg (evs N (.slice A1 N.key.length c1) (.slice A2 N.data.length c2))] w (AskPost w (askS ep n T N)) := by
  have CK := Lib.hid (fun W (h : FV W A n c T) => check_fence ep A n c T W h)
  have CR := Lib.hid (fun W => isRequest_any N A1 A2 c1 c2 W)
  have BB := Lib.hid (below3 w (.cells #[.int .u32 (ep : Int), .slice A n c] 25) (.cells (evs N (.slice A1 N.key.length c1) (.slice A2 N.data.length c2)) 29) (.cells #[.int .u32 0, .int .i64 0, .bool false, .slice none 0 0, .int .i64 0, .slice none 0 0] 34))
  have LF := Lib.hid (((Lies.made w 25 #[.int .u32 (ep : Int), .slice A n c]).alloc (.cells (evs N (.slice A1 N.key.length c1) (.slice A2 N.data.length c2)) 29)).alloc (.cells #[.int .u32 0, .int .i64 0, .bool false, .slice none 0 0, .int .i64 0, .slice none 0 0] 34))
  have LN := Lib.hid ((Lies.made2 w (.cells #[.int .u32 (ep : Int), .slice A n c] 25) 29 (evs N (.slice A1 N.key.length c1) (.slice A2 N.data.length c2))).alloc (.cells #[.int .u32 0, .int .i64 0, .bool false, .slice none 0 0, .int .i64 0, .slice none 0 0] 34))
  have LR := Lib.hid (Lies.made3 w (.cells #[.int .u32 (ep : Int), .slice A n c] 25) (.cells (evs N (.slice A1 N.key.length c1) (.slice A2 N.data.length c2)) 29) 34 #[.int .u32 0, .int .i64 0, .bool false, .slice none 0 0, .int .i64 0, .slice none 0 0])
  have HF := Lib.hid (hF.below BB.out)
  have HD := Lib.hid (hN.d.below BB.out)
  have HNB := Lib.hid hN.b.epoch
  cases hok : okB n T
  · rw [show askS ep n T N = ⟨0, kz, 2⟩ from by unfold askS; rw [if_neg (by rw [hok]; simp)]]
    rw [chkC_bad hok] at CK
    unfold AskPost
    obtain ⟨kd, e, ol, ls, tk, od, st, un, cd, ky, da⟩ := N
    dsimp only at *
    generalize ky.length = n1 at *
    generalize da.length = n2 at *
    clear hok hN hF hs
    go_enter Try.func14, Try.ntmps14
    go_wp2_with fail
    with_reducible refine (CK.out _ HF.out).mono ?_
    rintro x w1 ⟨rfl, hb⟩
    have LF_1 := Lib.hid ((Lies.below LF.out hb LF.out.lt))
    have LN_1 := Lib.hid ((Lies.below LN.out hb LN.out.lt))
    have LR_1 := Lib.hid ((Lies.below LR.out hb LR.out.lt))
    have BB_1 := Lib.hid (BB.out.trans (hb.mono BB.out.size))
    have HF_1 := Lib.hid ((HF.out.below hb))
    clear hb
    obtain ⟨c0_0, c0_1⟩ := LF_1.out.cells2
    obtain ⟨f0_0, f0_1⟩ := LF_1.out.free2
    obtain ⟨c1_0, c1_1, c1_2, c1_3, c1_4, c1_5, c1_6, c1_7, c1_8, c1_9, c1_10⟩ := LN_1.out.cells11
    obtain ⟨f1_0, f1_1, f1_2, f1_3, f1_4, f1_5, f1_6, f1_7, f1_8, f1_9, f1_10⟩ := LN_1.out.free11
    obtain ⟨c2_0, c2_1, c2_2, c2_3, c2_4, c2_5⟩ := LR_1.out.cells6
    obtain ⟨f2_0, f2_1, f2_2, f2_3, f2_4, f2_5⟩ := LR_1.out.free6
    go_wp2
    exact ret_ask (w.heap.size + 1 + 1) 34 _ rfl rfl (LR_1.out.put6 _ _ _ _ _ _) rfl rfl ⟨_, rfl, newK_zero _ _, below_put6 BB_1.out (by omega) _ _ _ _ _ _⟩
  · rw [chkC_ok hok] at CK
    cases hr : reqB N
    · rw [show askS ep n T N = ⟨0, kz, 2⟩ from by unfold askS; rw [if_neg (by rw [hr]; simp)]]
      rw [hr] at CR
      unfold AskPost
      obtain ⟨kd, e, ol, ls, tk, od, st, un, cd, ky, da⟩ := N
      dsimp only at *
      generalize ky.length = n1 at *
      generalize da.length = n2 at *
      clear hok hN hF hs hr
      go_enter Try.func14, Try.ntmps14
      go_wp2_with fail
      with_reducible refine (CK.out _ HF.out).mono ?_
      rintro x w1 ⟨rfl, hb⟩
      have LF_1 := Lib.hid ((Lies.below LF.out hb LF.out.lt))
      have LN_1 := Lib.hid ((Lies.below LN.out hb LN.out.lt))
      have LR_1 := Lib.hid ((Lies.below LR.out hb LR.out.lt))
      have BB_1 := Lib.hid (BB.out.trans (hb.mono BB.out.size))
      have HF_1 := Lib.hid ((HF.out.below hb))
      clear hb
      obtain ⟨c0_0, c0_1⟩ := LF_1.out.cells2
      obtain ⟨f0_0, f0_1⟩ := LF_1.out.free2
      obtain ⟨c1_0, c1_1, c1_2, c1_3, c1_4, c1_5, c1_6, c1_7, c1_8, c1_9, c1_10⟩ := LN_1.out.cells11
      obtain ⟨f1_0, f1_1, f1_2, f1_3, f1_4, f1_5, f1_6, f1_7, f1_8, f1_9, f1_10⟩ := LN_1.out.free11
      obtain ⟨c2_0, c2_1, c2_2, c2_3, c2_4, c2_5⟩ := LR_1.out.cells6
      obtain ⟨f2_0, f2_1, f2_2, f2_3, f2_4, f2_5⟩ := LR_1.out.free6
      go_wp2_with fail
      with_reducible refine (CR.out _).mono ?_
      rintro x w2 ⟨rfl, hb⟩
      have LF_2 := Lib.hid ((Lies.below LF_1.out hb LF_1.out.lt))
      have LN_2 := Lib.hid ((Lies.below LN_1.out hb LN_1.out.lt))
      have LR_2 := Lib.hid ((Lies.below LR_1.out hb LR_1.out.lt))
      have BB_2 := Lib.hid (BB_1.out.trans (hb.mono BB_1.out.size))
      have HF_2 := Lib.hid ((HF_1.out.below hb))
      clear hb
      clear c0_0 c0_1 f0_0 f0_1 c1_0 c1_1 c1_2 c1_3 c1_4 c1_5 c1_6 c1_7 c1_8 c1_9 c1_10 f1_0 f1_1 f1_2 f1_3 f1_4 f1_5 f1_6 f1_7 f1_8 f1_9 f1_10 c2_0 c2_1 c2_2 c2_3 c2_4 c2_5 f2_0 f2_1 f2_2 f2_3 f2_4 f2_5
      obtain ⟨c0_0, c0_1⟩ := LF_2.out.cells2
      obtain ⟨f0_0, f0_1⟩ := LF_2.out.free2
      obtain ⟨c1_0, c1_1, c1_2, c1_3, c1_4, c1_5, c1_6, c1_7, c1_8, c1_9, c1_10⟩ := LN_2.out.cells11
      obtain ⟨f1_0, f1_1, f1_2, f1_3, f1_4, f1_5, f1_6, f1_7, f1_8, f1_9, f1_10⟩ := LN_2.out.free11
      obtain ⟨c2_0, c2_1, c2_2, c2_3, c2_4, c2_5⟩ := LR_2.out.cells6
      obtain ⟨f2_0, f2_1, f2_2, f2_3, f2_4, f2_5⟩ := LR_2.out.free6
      go_wp2
      exact ret_ask (w.heap.size + 1 + 1) 34 _ rfl rfl (LR_2.out.put6 _ _ _ _ _ _) rfl rfl ⟨_, rfl, newK_zero _ _, below_put6 BB_2.out (by omega) _ _ _ _ _ _⟩
    · rw [hr] at CR
      by_cases hst : N.epoch < ep
      · rw [show askS ep n T N = ⟨0, kz, 72⟩ from by unfold askS; rw [if_pos ⟨hok, hr⟩, if_pos hst]]
        have ds : decide ((N.epoch : Int) < (ep : Int)) = true := by rw [decide_eq_true_iff]; omega
        have ds2 : decide (N.epoch < ep) = true := by rw [decide_eq_true_iff]; omega
        unfold AskPost
        obtain ⟨kd, e, ol, ls, tk, od, st, un, cd, ky, da⟩ := N
        dsimp only at *
        generalize ky.length = n1 at *
        generalize da.length = n2 at *
        clear hok hN hF hs hr hst
        go_enter Try.func14, Try.ntmps14
        go_wp2_with fail
        with_reducible refine (CK.out _ HF.out).mono ?_
        rintro x w1 ⟨rfl, hb⟩
        have LF_1 := Lib.hid ((Lies.below LF.out hb LF.out.lt))
        have LN_1 := Lib.hid ((Lies.below LN.out hb LN.out.lt))
        have LR_1 := Lib.hid ((Lies.below LR.out hb LR.out.lt))
        have BB_1 := Lib.hid (BB.out.trans (hb.mono BB.out.size))
        have HF_1 := Lib.hid ((HF.out.below hb))
        clear hb
        obtain ⟨c0_0, c0_1⟩ := LF_1.out.cells2
        obtain ⟨f0_0, f0_1⟩ := LF_1.out.free2
        obtain ⟨c1_0, c1_1, c1_2, c1_3, c1_4, c1_5, c1_6, c1_7, c1_8, c1_9, c1_10⟩ := LN_1.out.cells11
        obtain ⟨f1_0, f1_1, f1_2, f1_3, f1_4, f1_5, f1_6, f1_7, f1_8, f1_9, f1_10⟩ := LN_1.out.free11
        obtain ⟨c2_0, c2_1, c2_2, c2_3, c2_4, c2_5⟩ := LR_1.out.cells6
        obtain ⟨f2_0, f2_1, f2_2, f2_3, f2_4, f2_5⟩ := LR_1.out.free6
        go_wp2_with fail
        with_reducible refine (CR.out _).mono ?_
        rintro x w2 ⟨rfl, hb⟩
        have LF_2 := Lib.hid ((Lies.below LF_1.out hb LF_1.out.lt))
        have LN_2 := Lib.hid ((Lies.below LN_1.out hb LN_1.out.lt))
        have LR_2 := Lib.hid ((Lies.below LR_1.out hb LR_1.out.lt))
        have BB_2 := Lib.hid (BB_1.out.trans (hb.mono BB_1.out.size))
        have HF_2 := Lib.hid ((HF_1.out.below hb))
        clear hb
        clear c0_0 c0_1 f0_0 f0_1 c1_0 c1_1 c1_2 c1_3 c1_4 c1_5 c1_6 c1_7 c1_8 c1_9 c1_10 f1_0 f1_1 f1_2 f1_3 f1_4 f1_5 f1_6 f1_7 f1_8 f1_9 f1_10 c2_0 c2_1 c2_2 c2_3 c2_4 c2_5 f2_0 f2_1 f2_2 f2_3 f2_4 f2_5
        obtain ⟨c0_0, c0_1⟩ := LF_2.out.cells2
        obtain ⟨f0_0, f0_1⟩ := LF_2.out.free2
        obtain ⟨c1_0, c1_1, c1_2, c1_3, c1_4, c1_5, c1_6, c1_7, c1_8, c1_9, c1_10⟩ := LN_2.out.cells11
        obtain ⟨f1_0, f1_1, f1_2, f1_3, f1_4, f1_5, f1_6, f1_7, f1_8, f1_9, f1_10⟩ := LN_2.out.free11
        obtain ⟨c2_0, c2_1, c2_2, c2_3, c2_4, c2_5⟩ := LR_2.out.cells6
        obtain ⟨f2_0, f2_1, f2_2, f2_3, f2_4, f2_5⟩ := LR_2.out.free6
        go_wp2
        exact ret_ask (w.heap.size + 1 + 1) 34 _ rfl rfl (LR_2.out.put6 _ _ _ _ _ _) rfl rfl ⟨_, rfl, newK_zero _ _, below_put6 BB_2.out (by omega) _ _ _ _ _ _⟩
      · have ds : decide ((N.epoch : Int) < (ep : Int)) = false := by rw [decide_eq_false_iff_not]; omega
        have ds2 : decide (N.epoch < ep) = false := by rw [decide_eq_false_iff_not]; omega
        have CF := Lib.hid (fun W (h : FV W A n c T) => find_any ep A n c T N.order N.step N.undo W h hs)
        have HFB : Hid (findB n T (kn N.order N.step N.undo) = has n T (nk N)) := Lib.hid (by unfold findB; rw [hok]; rfl)
        rw [HFB.out] at CF
        cases hh : has n T (nk N)
        · rw [show askS ep n T N = ⟨actN n T N, kz, 0⟩ from by unfold askS; rw [if_pos ⟨hok, hr⟩, if_neg hst, if_neg (by rw [hh]; decide)]]
          rw [hh] at CF
          have CA := Lib.hid (fun W (h : FV W A n c T) => actOnNew_any ep A n c T N A1 A2 c1 c2 W h hs hok)
          unfold AskPost
          generalize actN n T N = ac at *
          generalize findK n T (kn N.order N.step N.undo) = fk at *
          obtain ⟨kd, e, ol, ls, tk, od, st, un, cd, ky, da⟩ := N
          dsimp only at *
          generalize ky.length = n1 at *
          generalize da.length = n2 at *
          clear hok hN hF hs hr hst HFB hh
          go_enter Try.func14, Try.ntmps14
          go_wp2_with fail
          with_reducible refine (CK.out _ HF.out).mono ?_
          rintro x w1 ⟨rfl, hb⟩
          have LF_1 := Lib.hid ((Lies.below LF.out hb LF.out.lt))
          have LN_1 := Lib.hid ((Lies.below LN.out hb LN.out.lt))
          have LR_1 := Lib.hid ((Lies.below LR.out hb LR.out.lt))
          have BB_1 := Lib.hid (BB.out.trans (hb.mono BB.out.size))
          have HF_1 := Lib.hid ((HF.out.below hb))
          clear hb
          obtain ⟨c0_0, c0_1⟩ := LF_1.out.cells2
          obtain ⟨f0_0, f0_1⟩ := LF_1.out.free2
          obtain ⟨c1_0, c1_1, c1_2, c1_3, c1_4, c1_5, c1_6, c1_7, c1_8, c1_9, c1_10⟩ := LN_1.out.cells11
          obtain ⟨f1_0, f1_1, f1_2, f1_3, f1_4, f1_5, f1_6, f1_7, f1_8, f1_9, f1_10⟩ := LN_1.out.free11
          obtain ⟨c2_0, c2_1, c2_2, c2_3, c2_4, c2_5⟩ := LR_1.out.cells6
          obtain ⟨f2_0, f2_1, f2_2, f2_3, f2_4, f2_5⟩ := LR_1.out.free6
          go_wp2_with fail
          with_reducible refine (CR.out _).mono ?_
          rintro x w2 ⟨rfl, hb⟩
          have LF_2 := Lib.hid ((Lies.below LF_1.out hb LF_1.out.lt))
          have LN_2 := Lib.hid ((Lies.below LN_1.out hb LN_1.out.lt))
          have LR_2 := Lib.hid ((Lies.below LR_1.out hb LR_1.out.lt))
          have BB_2 := Lib.hid (BB_1.out.trans (hb.mono BB_1.out.size))
          have HF_2 := Lib.hid ((HF_1.out.below hb))
          clear hb
          clear c0_0 c0_1 f0_0 f0_1 c1_0 c1_1 c1_2 c1_3 c1_4 c1_5 c1_6 c1_7 c1_8 c1_9 c1_10 f1_0 f1_1 f1_2 f1_3 f1_4 f1_5 f1_6 f1_7 f1_8 f1_9 f1_10 c2_0 c2_1 c2_2 c2_3 c2_4 c2_5 f2_0 f2_1 f2_2 f2_3 f2_4 f2_5
          obtain ⟨c0_0, c0_1⟩ := LF_2.out.cells2
          obtain ⟨f0_0, f0_1⟩ := LF_2.out.free2
          obtain ⟨c1_0, c1_1, c1_2, c1_3, c1_4, c1_5, c1_6, c1_7, c1_8, c1_9, c1_10⟩ := LN_2.out.cells11
          obtain ⟨f1_0, f1_1, f1_2, f1_3, f1_4, f1_5, f1_6, f1_7, f1_8, f1_9, f1_10⟩ := LN_2.out.free11
          obtain ⟨c2_0, c2_1, c2_2, c2_3, c2_4, c2_5⟩ := LR_2.out.cells6
          obtain ⟨f2_0, f2_1, f2_2, f2_3, f2_4, f2_5⟩ := LR_2.out.free6
          go_wp2_with fail
          with_reducible refine (CF.out _ HF_2.out).mono ?_
          rintro x w3 ⟨y, rfl, hy, hb⟩
          have HLT := Lib.hid (Nat.lt_of_lt_of_le LR_2.out.lt hb.size)
          have NY := Lib.hid hy
          clear hy
          obtain ⟨E1, d1, z1, -⟩ := NY.out.2.1.slice
          obtain ⟨E2, d2, z2, -⟩ := NY.out.2.2.slice
          have hyk := NY.out.1
          obtain ⟨yk, yK, yD⟩ := y
          dsimp only at *
          subst z1 z2 hyk
          obtain ⟨yo, ys, yu, ya, yc, yr⟩ := yk
          dsimp only at *
          obtain ⟨m1, hm1⟩ : ∃ m, ya.length = m := ⟨_, rfl⟩
          obtain ⟨m2, hm2⟩ : ∃ m, yr.length = m := ⟨_, rfl⟩
          rw [hm1, hm2] at NY ⊢
          have LF_3 := Lib.hid ((Lies.below LF_2.out hb LF_2.out.lt).alloc (.cells #[.int .u32 (yo : Int), .int .i64 ys, .bool yu, .slice E1 m1 d1, .int .i64 yc, .slice E2 m2 d2] 34))
          have LN_3 := Lib.hid ((Lies.below LN_2.out hb LN_2.out.lt).alloc (.cells #[.int .u32 (yo : Int), .int .i64 ys, .bool yu, .slice E1 m1 d1, .int .i64 yc, .slice E2 m2 d2] 34))
          have LR_3 := Lib.hid ((Lies.below LR_2.out hb LR_2.out.lt).alloc (.cells #[.int .u32 (yo : Int), .int .i64 ys, .bool yu, .slice E1 m1 d1, .int .i64 yc, .slice E2 m2 d2] 34))
          have BB_3 := Lib.hid ((BB_2.out.trans (hb.mono BB_2.out.size)).alloc (BB_2.out.trans (hb.mono BB_2.out.size)).size (.cells #[.int .u32 (yo : Int), .int .i64 ys, .bool yu, .slice E1 m1 d1, .int .i64 yc, .slice E2 m2 d2] 34))
          have HF_3 := Lib.hid ((HF_2.out.below hb).below (below1 _ (.cells #[.int .u32 (yo : Int), .int .i64 ys, .bool yu, .slice E1 m1 d1, .int .i64 yc, .slice E2 m2 d2] 34)))
          have LN3_3 := Lib.hid (Lies.made w3 34 #[.int .u32 (yo : Int), .int .i64 ys, .bool yu, .slice E1 m1 d1, .int .i64 yc, .slice E2 m2 d2])
          clear hb
          clear c0_0 c0_1 f0_0 f0_1 c1_0 c1_1 c1_2 c1_3 c1_4 c1_5 c1_6 c1_7 c1_8 c1_9 c1_10 f1_0 f1_1 f1_2 f1_3 f1_4 f1_5 f1_6 f1_7 f1_8 f1_9 f1_10 c2_0 c2_1 c2_2 c2_3 c2_4 c2_5 f2_0 f2_1 f2_2 f2_3 f2_4 f2_5
          obtain ⟨c0_0, c0_1⟩ := LF_3.out.cells2
          obtain ⟨f0_0, f0_1⟩ := LF_3.out.free2
          obtain ⟨c1_0, c1_1, c1_2, c1_3, c1_4, c1_5, c1_6, c1_7, c1_8, c1_9, c1_10⟩ := LN_3.out.cells11
          obtain ⟨f1_0, f1_1, f1_2, f1_3, f1_4, f1_5, f1_6, f1_7, f1_8, f1_9, f1_10⟩ := LN_3.out.free11
          obtain ⟨c2_0, c2_1, c2_2, c2_3, c2_4, c2_5⟩ := LR_3.out.cells6
          obtain ⟨f2_0, f2_1, f2_2, f2_3, f2_4, f2_5⟩ := LR_3.out.free6
          obtain ⟨c3_0, c3_1, c3_2, c3_3, c3_4, c3_5⟩ := LN3_3.out.cells6
          obtain ⟨f3_0, f3_1, f3_2, f3_3, f3_4, f3_5⟩ := LN3_3.out.free6
          go_wp2_with fail
          with_reducible refine (CA.out _ HF_3.out).mono ?_
          rintro x w4 ⟨rfl, hb⟩
          have LF_4 := Lib.hid ((Lies.below LF_3.out hb LF_3.out.lt))
          have LN_4 := Lib.hid ((Lies.below LN_3.out hb LN_3.out.lt))
          have LR_4 := Lib.hid ((Lies.below LR_3.out hb LR_3.out.lt))
          have LN3_4 := Lib.hid ((Lies.below LN3_3.out hb LN3_3.out.lt))
          have BB_4 := Lib.hid (BB_3.out.trans (hb.mono BB_3.out.size))
          have HF_4 := Lib.hid ((HF_3.out.below hb))
          clear hb
          clear c0_0 c0_1 f0_0 f0_1 c1_0 c1_1 c1_2 c1_3 c1_4 c1_5 c1_6 c1_7 c1_8 c1_9 c1_10 f1_0 f1_1 f1_2 f1_3 f1_4 f1_5 f1_6 f1_7 f1_8 f1_9 f1_10 c2_0 c2_1 c2_2 c2_3 c2_4 c2_5 f2_0 f2_1 f2_2 f2_3 f2_4 f2_5 c3_0 c3_1 c3_2 c3_3 c3_4 c3_5 f3_0 f3_1 f3_2 f3_3 f3_4 f3_5
          obtain ⟨c0_0, c0_1⟩ := LF_4.out.cells2
          obtain ⟨f0_0, f0_1⟩ := LF_4.out.free2
          obtain ⟨c1_0, c1_1, c1_2, c1_3, c1_4, c1_5, c1_6, c1_7, c1_8, c1_9, c1_10⟩ := LN_4.out.cells11
          obtain ⟨f1_0, f1_1, f1_2, f1_3, f1_4, f1_5, f1_6, f1_7, f1_8, f1_9, f1_10⟩ := LN_4.out.free11
          obtain ⟨c2_0, c2_1, c2_2, c2_3, c2_4, c2_5⟩ := LR_4.out.cells6
          obtain ⟨f2_0, f2_1, f2_2, f2_3, f2_4, f2_5⟩ := LR_4.out.free6
          obtain ⟨c3_0, c3_1, c3_2, c3_3, c3_4, c3_5⟩ := LN3_4.out.cells6
          obtain ⟨f3_0, f3_1, f3_2, f3_3, f3_4, f3_5⟩ := LN3_4.out.free6
          go_wp2
          exact ret_ask (w.heap.size + 1 + 1) 34 _ rfl rfl (LR_4.out.put6 _ _ _ _ _ _) rfl rfl ⟨_, rfl, newK_zero _ _, below_put6 BB_4.out (by omega) _ _ _ _ _ _⟩
        · have HFK : Hid (findK n T (kn N.order N.step N.undo) = T (pos T (nk N) n)) := Lib.hid (by unfold findK; rw [if_pos ⟨hok, hh⟩])
          rw [hh] at CF
          have CE := Lib.hid (fun W (a : Option Addr) (m d : Nat) (l : List Nat) (h1 : Bys W a m l) (h2 : Bys W A2 N.data.length N.data) => equal_any a A2 m N.data.length d c2 l N.data W h1 h2)
          by_cases hd : (T (pos T (nk N) n)).a = N.data
          · rw [show askS ep n T N = ⟨2, T (pos T (nk N) n), 0⟩ from by unfold askS; rw [if_pos ⟨hok, hr⟩, if_neg hst, if_pos hh, if_pos hd]]
            rw [← HFK.out] at hd
            rw [← HFK.out]
            unfold AskPost
            generalize findK n T (kn N.order N.step N.undo) = fk at *
            obtain ⟨kd, e, ol, ls, tk, od, st, un, cd, ky, da⟩ := N
            dsimp only at *
            obtain ⟨n1, hn1⟩ : ∃ m, ky.length = m := ⟨_, rfl⟩
            obtain ⟨n2, hn2⟩ : ∃ m, da.length = m := ⟨_, rfl⟩
            rw [hn1, hn2]
            rw [hn1, hn2] at LF LN LR BB CR HF HD
            rw [hn2] at CE
            clear hok hN hF hs hr hst HFB hh hn1 hn2 HFK
            go_enter Try.func14, Try.ntmps14
            go_wp2_with fail
            with_reducible refine (CK.out _ HF.out).mono ?_
            rintro x w1 ⟨rfl, hb⟩
            have LF_1 := Lib.hid ((Lies.below LF.out hb LF.out.lt))
            have LN_1 := Lib.hid ((Lies.below LN.out hb LN.out.lt))
            have LR_1 := Lib.hid ((Lies.below LR.out hb LR.out.lt))
            have BB_1 := Lib.hid (BB.out.trans (hb.mono BB.out.size))
            have HF_1 := Lib.hid ((HF.out.below hb))
            have HD_1 := Lib.hid ((HD.out.belowD hb))
            clear hb
            obtain ⟨c0_0, c0_1⟩ := LF_1.out.cells2
            obtain ⟨f0_0, f0_1⟩ := LF_1.out.free2
            obtain ⟨c1_0, c1_1, c1_2, c1_3, c1_4, c1_5, c1_6, c1_7, c1_8, c1_9, c1_10⟩ := LN_1.out.cells11
            obtain ⟨f1_0, f1_1, f1_2, f1_3, f1_4, f1_5, f1_6, f1_7, f1_8, f1_9, f1_10⟩ := LN_1.out.free11
            obtain ⟨c2_0, c2_1, c2_2, c2_3, c2_4, c2_5⟩ := LR_1.out.cells6
            obtain ⟨f2_0, f2_1, f2_2, f2_3, f2_4, f2_5⟩ := LR_1.out.free6
            go_wp2_with fail
            with_reducible refine (CR.out _).mono ?_
            rintro x w2 ⟨rfl, hb⟩
            have LF_2 := Lib.hid ((Lies.below LF_1.out hb LF_1.out.lt))
            have LN_2 := Lib.hid ((Lies.below LN_1.out hb LN_1.out.lt))
            have LR_2 := Lib.hid ((Lies.below LR_1.out hb LR_1.out.lt))
            have BB_2 := Lib.hid (BB_1.out.trans (hb.mono BB_1.out.size))
            have HF_2 := Lib.hid ((HF_1.out.below hb))
            have HD_2 := Lib.hid ((HD_1.out.belowD hb))
            clear hb
            clear c0_0 c0_1 f0_0 f0_1 c1_0 c1_1 c1_2 c1_3 c1_4 c1_5 c1_6 c1_7 c1_8 c1_9 c1_10 f1_0 f1_1 f1_2 f1_3 f1_4 f1_5 f1_6 f1_7 f1_8 f1_9 f1_10 c2_0 c2_1 c2_2 c2_3 c2_4 c2_5 f2_0 f2_1 f2_2 f2_3 f2_4 f2_5
            obtain ⟨c0_0, c0_1⟩ := LF_2.out.cells2
            obtain ⟨f0_0, f0_1⟩ := LF_2.out.free2
            obtain ⟨c1_0, c1_1, c1_2, c1_3, c1_4, c1_5, c1_6, c1_7, c1_8, c1_9, c1_10⟩ := LN_2.out.cells11
            obtain ⟨f1_0, f1_1, f1_2, f1_3, f1_4, f1_5, f1_6, f1_7, f1_8, f1_9, f1_10⟩ := LN_2.out.free11
            obtain ⟨c2_0, c2_1, c2_2, c2_3, c2_4, c2_5⟩ := LR_2.out.cells6
            obtain ⟨f2_0, f2_1, f2_2, f2_3, f2_4, f2_5⟩ := LR_2.out.free6
            go_wp2_with fail
            with_reducible refine (CF.out _ HF_2.out).mono ?_
            rintro x w3 ⟨y, rfl, hy, hb⟩
            have HLT := Lib.hid (Nat.lt_of_lt_of_le LR_2.out.lt hb.size)
            have NY := Lib.hid hy
            clear hy
            obtain ⟨E1, d1, z1, -⟩ := NY.out.2.1.slice
            obtain ⟨E2, d2, z2, -⟩ := NY.out.2.2.slice
            have hyk := NY.out.1
            obtain ⟨yk, yK, yD⟩ := y
            dsimp only at *
            subst z1 z2 hyk
            obtain ⟨yo, ys, yu, ya, yc, yr⟩ := yk
            dsimp only at *
            obtain ⟨m1, hm1⟩ : ∃ m, ya.length = m := ⟨_, rfl⟩
            obtain ⟨m2, hm2⟩ : ∃ m, yr.length = m := ⟨_, rfl⟩
            rw [hm1, hm2] at NY ⊢
            have LF_3 := Lib.hid ((Lies.below LF_2.out hb LF_2.out.lt).alloc (.cells #[.int .u32 (yo : Int), .int .i64 ys, .bool yu, .slice E1 m1 d1, .int .i64 yc, .slice E2 m2 d2] 34))
            have LN_3 := Lib.hid ((Lies.below LN_2.out hb LN_2.out.lt).alloc (.cells #[.int .u32 (yo : Int), .int .i64 ys, .bool yu, .slice E1 m1 d1, .int .i64 yc, .slice E2 m2 d2] 34))
            have LR_3 := Lib.hid ((Lies.below LR_2.out hb LR_2.out.lt).alloc (.cells #[.int .u32 (yo : Int), .int .i64 ys, .bool yu, .slice E1 m1 d1, .int .i64 yc, .slice E2 m2 d2] 34))
            have BB_3 := Lib.hid ((BB_2.out.trans (hb.mono BB_2.out.size)).alloc (BB_2.out.trans (hb.mono BB_2.out.size)).size (.cells #[.int .u32 (yo : Int), .int .i64 ys, .bool yu, .slice E1 m1 d1, .int .i64 yc, .slice E2 m2 d2] 34))
            have HF_3 := Lib.hid ((HF_2.out.below hb).below (below1 _ (.cells #[.int .u32 (yo : Int), .int .i64 ys, .bool yu, .slice E1 m1 d1, .int .i64 yc, .slice E2 m2 d2] 34)))
            have HD_3 := Lib.hid ((HD_2.out.belowD hb).below (below1 _ (.cells #[.int .u32 (yo : Int), .int .i64 ys, .bool yu, .slice E1 m1 d1, .int .i64 yc, .slice E2 m2 d2] 34)))
            have LN3_3 := Lib.hid (Lies.made w3 34 #[.int .u32 (yo : Int), .int .i64 ys, .bool yu, .slice E1 m1 d1, .int .i64 yc, .slice E2 m2 d2])
            clear hb
            clear c0_0 c0_1 f0_0 f0_1 c1_0 c1_1 c1_2 c1_3 c1_4 c1_5 c1_6 c1_7 c1_8 c1_9 c1_10 f1_0 f1_1 f1_2 f1_3 f1_4 f1_5 f1_6 f1_7 f1_8 f1_9 f1_10 c2_0 c2_1 c2_2 c2_3 c2_4 c2_5 f2_0 f2_1 f2_2 f2_3 f2_4 f2_5
            obtain ⟨c0_0, c0_1⟩ := LF_3.out.cells2
            obtain ⟨f0_0, f0_1⟩ := LF_3.out.free2
            obtain ⟨c1_0, c1_1, c1_2, c1_3, c1_4, c1_5, c1_6, c1_7, c1_8, c1_9, c1_10⟩ := LN_3.out.cells11
            obtain ⟨f1_0, f1_1, f1_2, f1_3, f1_4, f1_5, f1_6, f1_7, f1_8, f1_9, f1_10⟩ := LN_3.out.free11
            obtain ⟨c2_0, c2_1, c2_2, c2_3, c2_4, c2_5⟩ := LR_3.out.cells6
            obtain ⟨f2_0, f2_1, f2_2, f2_3, f2_4, f2_5⟩ := LR_3.out.free6
            obtain ⟨c3_0, c3_1, c3_2, c3_3, c3_4, c3_5⟩ := LN3_3.out.cells6
            obtain ⟨f3_0, f3_1, f3_2, f3_3, f3_4, f3_5⟩ := LN3_3.out.free6
            have NY3 := Lib.hid (NewK.below NY.out (below1 w3 (.cells #[.int .u32 (yo : Int), .int .i64 ys, .bool yu, .slice E1 m1 d1, .int .i64 yc, .slice E2 m2 d2] 34)))
            have HYB := Lib.hid NY3.out.2.1.bys.1
            go_wp2_with fail
            with_reducible refine (CE.out _ E1 m1 d1 ya HYB.out HD_3.out).mono ?_
            rintro x w4 ⟨rfl, rfl⟩
            rw [show sameB ya da = true from by subst hd; exact sameB_self _]
            clear hd CE HYB
            go_wp2_with fail
            have hne : w.heap.size + 1 + 1 ≠ w3.heap.size := Nat.ne_of_lt HLT.out
            go_region_held3 (fun W => W.cell? ⟨w3.heap.size, 0, none⟩ = some (.int .u32 (yo : Int)) ∧ W.cell? ⟨w3.heap.size, 1, none⟩ = some (.int .i64 ys) ∧ W.cell? ⟨w3.heap.size, 2, none⟩ = some (.bool yu) ∧ W.cell? ⟨w3.heap.size, 3, none⟩ = some (.slice E1 m1 d1) ∧ W.cell? ⟨w3.heap.size, 4, none⟩ = some (.int .i64 yc) ∧ W.cell? ⟨w3.heap.size, 5, none⟩ = some (.slice E2 m2 d2)) (first | go_keep) (fail)
            go_wp2
            refine ret_ask (w.heap.size + 1 + 1) 34 _ rfl rfl (Lies.drew (Lies.put6 LR_3.out _ _ _ _ _ _)) rfl rfl ⟨⟨⟨yo, ys, yu, ya, yc, yr⟩, .slice E1 m1 d1, .slice E2 m2 d2⟩, rfl, ⟨rfl, ?_, ?_⟩, (below_put6 BB_3.out (by omega) _ _ _ _ _ _).drew⟩
            · exact (Own.drew (Own.put6 NY3.out.2.1 LR_3.out (by decide) _ _ _ _ _ _)).mono BB_2.out.size
            · exact (Own.drew (Own.put6 NY3.out.2.2 LR_3.out (by decide) _ _ _ _ _ _)).mono BB_2.out.size
          · rw [show askS ep n T N = ⟨0, kz, 80⟩ from by unfold askS; rw [if_pos ⟨hok, hr⟩, if_neg hst, if_pos hh, if_neg hd]]
            rw [← HFK.out] at hd
            unfold AskPost
            generalize findK n T (kn N.order N.step N.undo) = fk at *
            obtain ⟨kd, e, ol, ls, tk, od, st, un, cd, ky, da⟩ := N
            dsimp only at *
            obtain ⟨n1, hn1⟩ : ∃ m, ky.length = m := ⟨_, rfl⟩
            obtain ⟨n2, hn2⟩ : ∃ m, da.length = m := ⟨_, rfl⟩
            rw [hn1, hn2]
            rw [hn1, hn2] at LF LN LR BB CR HF HD
            rw [hn2] at CE
            clear hok hN hF hs hr hst HFB hh hn1 hn2 HFK
            go_enter Try.func14, Try.ntmps14
            go_wp2_with fail
            with_reducible refine (CK.out _ HF.out).mono ?_
            rintro x w1 ⟨rfl, hb⟩
            have LF_1 := Lib.hid ((Lies.below LF.out hb LF.out.lt))
            have LN_1 := Lib.hid ((Lies.below LN.out hb LN.out.lt))
            have LR_1 := Lib.hid ((Lies.below LR.out hb LR.out.lt))
            have BB_1 := Lib.hid (BB.out.trans (hb.mono BB.out.size))
            have HF_1 := Lib.hid ((HF.out.below hb))
            have HD_1 := Lib.hid ((HD.out.belowD hb))
            clear hb
            obtain ⟨c0_0, c0_1⟩ := LF_1.out.cells2
            obtain ⟨f0_0, f0_1⟩ := LF_1.out.free2
            obtain ⟨c1_0, c1_1, c1_2, c1_3, c1_4, c1_5, c1_6, c1_7, c1_8, c1_9, c1_10⟩ := LN_1.out.cells11
            obtain ⟨f1_0, f1_1, f1_2, f1_3, f1_4, f1_5, f1_6, f1_7, f1_8, f1_9, f1_10⟩ := LN_1.out.free11
            obtain ⟨c2_0, c2_1, c2_2, c2_3, c2_4, c2_5⟩ := LR_1.out.cells6
            obtain ⟨f2_0, f2_1, f2_2, f2_3, f2_4, f2_5⟩ := LR_1.out.free6
            go_wp2_with fail
            with_reducible refine (CR.out _).mono ?_
            rintro x w2 ⟨rfl, hb⟩
            have LF_2 := Lib.hid ((Lies.below LF_1.out hb LF_1.out.lt))
            have LN_2 := Lib.hid ((Lies.below LN_1.out hb LN_1.out.lt))
            have LR_2 := Lib.hid ((Lies.below LR_1.out hb LR_1.out.lt))
            have BB_2 := Lib.hid (BB_1.out.trans (hb.mono BB_1.out.size))
            have HF_2 := Lib.hid ((HF_1.out.below hb))
            have HD_2 := Lib.hid ((HD_1.out.belowD hb))
            clear hb
            clear c0_0 c0_1 f0_0 f0_1 c1_0 c1_1 c1_2 c1_3 c1_4 c1_5 c1_6 c1_7 c1_8 c1_9 c1_10 f1_0 f1_1 f1_2 f1_3 f1_4 f1_5 f1_6 f1_7 f1_8 f1_9 f1_10 c2_0 c2_1 c2_2 c2_3 c2_4 c2_5 f2_0 f2_1 f2_2 f2_3 f2_4 f2_5
            obtain ⟨c0_0, c0_1⟩ := LF_2.out.cells2
            obtain ⟨f0_0, f0_1⟩ := LF_2.out.free2
            obtain ⟨c1_0, c1_1, c1_2, c1_3, c1_4, c1_5, c1_6, c1_7, c1_8, c1_9, c1_10⟩ := LN_2.out.cells11
            obtain ⟨f1_0, f1_1, f1_2, f1_3, f1_4, f1_5, f1_6, f1_7, f1_8, f1_9, f1_10⟩ := LN_2.out.free11
            obtain ⟨c2_0, c2_1, c2_2, c2_3, c2_4, c2_5⟩ := LR_2.out.cells6
            obtain ⟨f2_0, f2_1, f2_2, f2_3, f2_4, f2_5⟩ := LR_2.out.free6
            go_wp2_with fail
            with_reducible refine (CF.out _ HF_2.out).mono ?_
            rintro x w3 ⟨y, rfl, hy, hb⟩
            have HLT := Lib.hid (Nat.lt_of_lt_of_le LR_2.out.lt hb.size)
            have NY := Lib.hid hy
            clear hy
            obtain ⟨E1, d1, z1, -⟩ := NY.out.2.1.slice
            obtain ⟨E2, d2, z2, -⟩ := NY.out.2.2.slice
            have hyk := NY.out.1
            obtain ⟨yk, yK, yD⟩ := y
            dsimp only at *
            subst z1 z2 hyk
            obtain ⟨yo, ys, yu, ya, yc, yr⟩ := yk
            dsimp only at *
            obtain ⟨m1, hm1⟩ : ∃ m, ya.length = m := ⟨_, rfl⟩
            obtain ⟨m2, hm2⟩ : ∃ m, yr.length = m := ⟨_, rfl⟩
            rw [hm1, hm2] at NY ⊢
            have LF_3 := Lib.hid ((Lies.below LF_2.out hb LF_2.out.lt).alloc (.cells #[.int .u32 (yo : Int), .int .i64 ys, .bool yu, .slice E1 m1 d1, .int .i64 yc, .slice E2 m2 d2] 34))
            have LN_3 := Lib.hid ((Lies.below LN_2.out hb LN_2.out.lt).alloc (.cells #[.int .u32 (yo : Int), .int .i64 ys, .bool yu, .slice E1 m1 d1, .int .i64 yc, .slice E2 m2 d2] 34))
            have LR_3 := Lib.hid ((Lies.below LR_2.out hb LR_2.out.lt).alloc (.cells #[.int .u32 (yo : Int), .int .i64 ys, .bool yu, .slice E1 m1 d1, .int .i64 yc, .slice E2 m2 d2] 34))
            have BB_3 := Lib.hid ((BB_2.out.trans (hb.mono BB_2.out.size)).alloc (BB_2.out.trans (hb.mono BB_2.out.size)).size (.cells #[.int .u32 (yo : Int), .int .i64 ys, .bool yu, .slice E1 m1 d1, .int .i64 yc, .slice E2 m2 d2] 34))
            have HF_3 := Lib.hid ((HF_2.out.below hb).below (below1 _ (.cells #[.int .u32 (yo : Int), .int .i64 ys, .bool yu, .slice E1 m1 d1, .int .i64 yc, .slice E2 m2 d2] 34)))
            have HD_3 := Lib.hid ((HD_2.out.belowD hb).below (below1 _ (.cells #[.int .u32 (yo : Int), .int .i64 ys, .bool yu, .slice E1 m1 d1, .int .i64 yc, .slice E2 m2 d2] 34)))
            have LN3_3 := Lib.hid (Lies.made w3 34 #[.int .u32 (yo : Int), .int .i64 ys, .bool yu, .slice E1 m1 d1, .int .i64 yc, .slice E2 m2 d2])
            clear hb
            clear c0_0 c0_1 f0_0 f0_1 c1_0 c1_1 c1_2 c1_3 c1_4 c1_5 c1_6 c1_7 c1_8 c1_9 c1_10 f1_0 f1_1 f1_2 f1_3 f1_4 f1_5 f1_6 f1_7 f1_8 f1_9 f1_10 c2_0 c2_1 c2_2 c2_3 c2_4 c2_5 f2_0 f2_1 f2_2 f2_3 f2_4 f2_5
            obtain ⟨c0_0, c0_1⟩ := LF_3.out.cells2
            obtain ⟨f0_0, f0_1⟩ := LF_3.out.free2
            obtain ⟨c1_0, c1_1, c1_2, c1_3, c1_4, c1_5, c1_6, c1_7, c1_8, c1_9, c1_10⟩ := LN_3.out.cells11
            obtain ⟨f1_0, f1_1, f1_2, f1_3, f1_4, f1_5, f1_6, f1_7, f1_8, f1_9, f1_10⟩ := LN_3.out.free11
            obtain ⟨c2_0, c2_1, c2_2, c2_3, c2_4, c2_5⟩ := LR_3.out.cells6
            obtain ⟨f2_0, f2_1, f2_2, f2_3, f2_4, f2_5⟩ := LR_3.out.free6
            obtain ⟨c3_0, c3_1, c3_2, c3_3, c3_4, c3_5⟩ := LN3_3.out.cells6
            obtain ⟨f3_0, f3_1, f3_2, f3_3, f3_4, f3_5⟩ := LN3_3.out.free6
            have NY3 := Lib.hid (NewK.below NY.out (below1 w3 (.cells #[.int .u32 (yo : Int), .int .i64 ys, .bool yu, .slice E1 m1 d1, .int .i64 yc, .slice E2 m2 d2] 34)))
            have HYB := Lib.hid NY3.out.2.1.bys.1
            go_wp2_with fail
            with_reducible refine (CE.out _ E1 m1 d1 ya HYB.out HD_3.out).mono ?_
            rintro x w4 ⟨rfl, rfl⟩
            rw [show sameB ya da = false from sameB_ne hd]
            clear hd CE HYB
            go_wp2
            exact ret_ask (w.heap.size + 1 + 1) 34 _ rfl rfl (LR_3.out.put6 _ _ _ _ _ _) rfl rfl ⟨_, rfl, newK_zero _ _, below_put6 BB_3.out (by omega) _ _ _ _ _ _⟩

end Go.Proofs.Ytfcfejmammohpaa
