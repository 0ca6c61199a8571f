/-
  FenceSaves, walked.
-/
import Derived.Test.YtfcfejmammohpaaSaveQ
import Derived.Test.YtfcfejmammohpaaMany
import Derived.Test.YtfcfejmammohpaaSpoilK
import Derived.Test.YtfcfejmammohpaaSameF
import Derived.Test.YtfcfejmammohpaaGrowL
namespace Go.Proofs.Ytfcfejmammohpaa
open Go.RowKit
set_option maxRecDepth 100000
set_option linter.unusedVariables false
set_option linter.unusedSimpArgs false

theorem same_self (a b : Option Addr) (n m c d : Nat) (la : List Nat) (w : World) (hA : Bys w a n la) (hB : Bys w b m la) :
    Calls Try.prog 36 #[.slice a n c, .slice b m d] w fun e w' => e = .returned (.bool true) ∧ w = w' := by
  have h := same_any a b n m c d la la w hA hB
  rw [sameB_self] at h
  exact h
set_option maxHeartbeats 16000000 in
theorem fenceSaves_walk (ep : Nat) (A : Option Addr) (n c : Nat) (T : Nat → Kp) (A1 : Option Addr) (n1 c1 : Nat) (l : List Nat) (w : World) (hep : ep < 4294967296) (hF : FV w A n c T) (hB : InBytes w A1 n1 c1 l) (KN : ∀ W, Calls Try.prog 12 #[] W fun x w' => x = .returned (.bool true) ∧ Below W.heap.size W w') :
    Calls Try.prog 8 #[.agg #[.int .u32 (ep : Int), .slice A n c], .slice A1 n1 c1] w fun x w' => x = .returned (.bool true) ∧ Below w.heap.size w w' := by
  have CM : Hid (∀ W, FV W A n c T → Calls Try.prog 11 #[.agg #[.int .u32 (ep : Int), .slice A n c], .agg #[.int .i64 0, .int .u32 0, .int .u32 0, .int .u64 0, .int .u64 0, .int .u32 0, .int .i64 0, .bool false, .int .i64 0, .slice none 0 0, .slice none 0 0]] W (ManyPost W (Small n T ⟨0, 0, 0, 0, 0, 0, 0, false, 0, [], []⟩))) := Lib.hid (fun W h => many_any ep A n c T ⟨0, 0, 0, 0, 0, 0, 0, false, 0, [], []⟩ none none 0 0 W h (Nat.zero_le _))
  have CKN := Lib.hid KN
  clear KN
  have BB := Lib.hid (below1 w (.cells #[.int .u32 (ep : Int), .slice A n c] 25))
  have LF := Lib.hid (Lies.made w 25 #[.int .u32 (ep : Int), .slice A n c])
  have HF := Lib.hid (hF.below BB.out)
  have HB := Lib.hid (hB.below BB.out)
  have HLL : Hid (l.length = n1) := Lib.hid hB.1.1
  have HF0 := Lib.hid hF
  have HB0 := Lib.hid hB
  have CL := Lib.hid (fun W (h : InBytes W A1 n1 c1 l) (hsm : n1 ≤ 60000) => lent_own A1 n1 c1 l W h.1 h.2.2.2 (by omega))
  have CP := Lib.hid (fun W (h : FV W A n c T) => put_any ep A n c T W h hep)
  have CRP := Lib.hid (fun W (h : FV W A n c T) => rputf_any ep A n c T W h hep)
  have CG := Lib.hid (fun W g cl (h : Bys W (some ⟨g, 0, none⟩) n1 l) (hsm : n1 ≤ 60000) => get_any (some ⟨g, 0, none⟩) n1 cl l W h (by omega))
  have CRG := Lib.hid (fun W (h : InBytes W A1 n1 c1 l) (hsm : n1 ≤ 60000) => rget_two A1 n1 c1 l W h (by omega))
  have CW := Lib.hid (fun W g cl (hX : Bys W (some ⟨g, 0, none⟩) (n1 + 2) (l ++ [91, 92])) (hB : InBytes W A1 n1 c1 l) (hc : n1 + 2 ≤ cl) (hsm : n1 ≤ 60000) => whole_any g n1 cl A1 c1 l W hX hB.1 hc (by omega))
  have CGP := Lib.hid (fun (hok : okB n T = true) Aa m ca W (h : Bys W Aa m (putS ep n T)) => get_put hep hF.o hok Aa m ca W h)
  have CPG := Lib.hid (fun (he : getE one l = 0) Aa ca W h => put_get (l := l) hB.1.2.1 he Aa ca W h)
  have CSF := Lib.hid (fun (e0 : Nat) (Aa Ab : Option Addr) (m ca cb : Nat) (S : Nat → Kp) W (h1 : FV W Aa m ca S) (h2 : FV W Ab m cb S) => same_fence e0 Aa Ab m ca cb S W h1 h2)
  have CSB := Lib.hid (fun (a b : Option Addr) (na nb ca cb : Nat) (la : List Nat) W (h1 : Bys W a na la) (h2 : Bys W b nb la) => same_self a b na nb ca cb la W h1 h2)
  have HCK := Lib.hid (chk_two n T)
  have HGE := Lib.hid (getE_two l)
  generalize hSM : Small n T ⟨0, 0, 0, 0, 0, 0, 0, false, 0, [], []⟩ = SM at *
  clear hSM
  unfold ManyPost at CM
  unfold LentOwn at CL
  unfold PutPost at CP CRP
  unfold FencePost at CG
  unfold FsPost at CRG
  unfold GotPost at CGP
  unfold AgainPost at CPG
  generalize getE one l = ge at *
  generalize getF one l = gf at *
  obtain ⟨fe, fn, fT⟩ := gf
  dsimp only at *
  generalize hck : chkC n T = pc at *
  obtain ⟨LA, hLA⟩ : ∃ LA, LA = (if okB n T = true then putS ep n T else []) := ⟨_, rfl⟩
  rw [← hLA] at CP CRP
  have HLA := Lib.hid hLA
  clear hF hB hck hLA hep
  have t1 : ((pc : Int) != (pc : Int)) = false := by simp
  have t2 : ((ge : Int) != (ge : Int)) = false := by simp
  go_enter Try.func8, Try.ntmps8
  go_wp2_with fail
  with_reducible refine (CM.out _ HF.out).mono ?_
  rintro x w1 ⟨bm, rfl, -, hb⟩
  clear CM
  have LF_1 := Lib.hid ((Lies.below LF.out hb LF.out.lt))
  have BB_1 := Lib.hid (BB.out.trans (hb.mono BB.out.size))
  have HF_1 := Lib.hid ((HF.out.below hb))
  have HB_1 := Lib.hid ((HB.out.below hb))
  clear hb
  obtain ⟨c0_0, c0_1⟩ := LF_1.out.cells2
  obtain ⟨f0_0, f0_1⟩ := LF_1.out.free2
  cases bm
  · by_cases h6 : 60000 < n1
    · have d1 : decide (60000 < n1) = true := decide_eq_true h6
      have d2 : decide ((60000 : Int) < (n1 : Int)) = true := by rw [decide_eq_true_iff]; omega
      go_wp2_with fail
      with_reducible refine (CKN.out _).mono ?_
      rintro x w2 ⟨rfl, hb⟩
      have BBk := Lib.hid (BB_1.out.trans (hb.mono BB_1.out.size))
      clear hb
      go_wp2
      go_ret
      exact ⟨rfl, BBk.out⟩
    · have d1 : decide (60000 < n1) = false := decide_eq_false h6
      have d2 : decide ((60000 : Int) < (n1 : Int)) = false := by rw [decide_eq_false_iff_not]; omega
      have H6 := Lib.hid (Nat.le_of_not_lt h6)
      clear h6
      go_wp2_with fail
      with_reducible refine (CL.out _ HB_1.out H6.out).mono ?_
      rintro x w2 ⟨g, cl, rfl, hc1, hc2, hgs, hO, hb⟩
      have HC := Lib.hid (And.intro hc1 hc2)
      have HGS0 := Lib.hid (Nat.le_trans BB_1.out.size hgs)
      have HOm := Lib.hid hO
      have HG2 := Lib.hid (hO.lt g rfl)
      clear hc1 hc2 hgs hO d1 d2
      have LF_2 := Lib.hid ((Lies.below LF_1.out hb LF_1.out.lt))
      have BB_2 := Lib.hid (BB_1.out.trans (hb.mono BB_1.out.size))
      have HF_2 := Lib.hid ((HF_1.out.below hb))
      have HB_2 := Lib.hid ((HB_1.out.below hb))
      clear hb
      clear c0_0 c0_1 f0_0 f0_1
      obtain ⟨c0_0, c0_1⟩ := LF_2.out.cells2
      obtain ⟨f0_0, f0_1⟩ := LF_2.out.free2
      go_wp2_with fail
      with_reducible refine (CP.out _ HF_2.out).mono ?_
      rintro x w3 ⟨va, rfl, ho, hb⟩
      obtain ⟨Aa, ca, rfl, -⟩ := ho.slice
      have HOa := Lib.hid ho
      have S23 := Lib.hid hb.size
      clear ho CP
      have LF_3 := Lib.hid ((Lies.below LF_2.out hb LF_2.out.lt))
      have BB_3 := Lib.hid (BB_2.out.trans (hb.mono BB_2.out.size))
      have HF_3 := Lib.hid ((HF_2.out.below hb))
      have HB_3 := Lib.hid ((HB_2.out.below hb))
      have HOm_3 := Lib.hid ((HOm.out.belowOwn hb))
      clear hb
      clear c0_0 c0_1 f0_0 f0_1
      obtain ⟨c0_0, c0_1⟩ := LF_3.out.cells2
      obtain ⟨f0_0, f0_1⟩ := LF_3.out.free2
      go_wp2_with fail
      with_reducible refine (CRP.out _ HF_3.out).mono ?_
      rintro x w4 ⟨vb, rfl, ho, hb⟩
      obtain ⟨Ab, cb, rfl, -⟩ := ho.slice
      have S34 := Lib.hid hb.size
      have HOb := Lib.hid ho
      clear ho CRP
      have LF_4 := Lib.hid ((Lies.below LF_3.out hb LF_3.out.lt))
      have BB_4 := Lib.hid (BB_3.out.trans (hb.mono BB_3.out.size))
      have HF_4 := Lib.hid ((HF_3.out.below hb))
      have HB_4 := Lib.hid ((HB_3.out.below hb))
      have HOm_4 := Lib.hid ((HOm_3.out.belowOwn hb))
      have HOa_4 := Lib.hid ((HOa.out.belowOwn hb))
      clear hb
      clear c0_0 c0_1 f0_0 f0_1
      obtain ⟨c0_0, c0_1⟩ := LF_4.out.cells2
      obtain ⟨f0_0, f0_1⟩ := LF_4.out.free2
      go_wp2_with fail
      with_reducible refine (CG.out _ g cl (HOm_4.out.bys.1.part HLL.out) H6.out).mono ?_
      rintro x w5 ⟨vd, Yd, rfl, hnf, hyk, hb⟩
      obtain ⟨Ad, cd, rfl, -⟩ := hnf.fv hyk
      have HND := Lib.hid (hnf.below (below1 w5 (.cells #[.int .u32 (fe : Int), .slice Ad fn cd] 25)))
      have HYD := Lib.hid hyk
      have S45 := Lib.hid hb.size
      clear hnf hyk CG
      have LF_5 := Lib.hid ((Lies.below LF_4.out hb LF_4.out.lt).alloc (.cells #[.int .u32 (fe : Int), .slice Ad fn cd] 25))
      have BB_5 := Lib.hid ((BB_4.out.trans (hb.mono BB_4.out.size)).alloc (BB_4.out.trans (hb.mono BB_4.out.size)).size (.cells #[.int .u32 (fe : Int), .slice Ad fn cd] 25))
      have HF_5 := Lib.hid ((HF_4.out.below hb).below (below1 _ (.cells #[.int .u32 (fe : Int), .slice Ad fn cd] 25)))
      have HB_5 := Lib.hid ((HB_4.out.below hb).below (below1 _ (.cells #[.int .u32 (fe : Int), .slice Ad fn cd] 25)))
      have HOm_5 := Lib.hid ((HOm_4.out.belowOwn hb).belowOwn (below1 _ (.cells #[.int .u32 (fe : Int), .slice Ad fn cd] 25)))
      have HOa_5 := Lib.hid ((HOa_4.out.belowOwn hb).belowOwn (below1 _ (.cells #[.int .u32 (fe : Int), .slice Ad fn cd] 25)))
      have HOb_5 := Lib.hid ((HOb.out.belowOwn hb).belowOwn (below1 _ (.cells #[.int .u32 (fe : Int), .slice Ad fn cd] 25)))
      have LN5_5 := Lib.hid (Lies.made w5 25 #[.int .u32 (fe : Int), .slice Ad fn cd])
      clear hb
      clear c0_0 c0_1 f0_0 f0_1
      obtain ⟨c0_0, c0_1⟩ := LF_5.out.cells2
      obtain ⟨f0_0, f0_1⟩ := LF_5.out.free2
      obtain ⟨c1_0, c1_1⟩ := LN5_5.out.cells2
      obtain ⟨f1_0, f1_1⟩ := LN5_5.out.free2
      go_wp2_with fail
      with_reducible refine (CRG.out _ HB_5.out H6.out).mono ?_
      rintro x w6 ⟨Ak, ck, rfl, hfs, hb⟩
      have HFS := Lib.hid (hfs.below (below1 w6 (.cells #[.int .u32 (fe : Int), .slice Ak fn ck] 25)))
      have S56b : Hid (w5.heap.size + 1 ≤ w6.heap.size) := Lib.hid (by have h := hb.size; simp at h; exact h)
      have HFW := Lib.hid (Nat.le_refl w6.heap.size)
      clear hfs CRG
      have LF_6 := Lib.hid ((Lies.below LF_5.out hb LF_5.out.lt).alloc (.cells #[.int .u32 (fe : Int), .slice Ak fn ck] 25))
      have LN5_6 := Lib.hid ((Lies.below LN5_5.out hb LN5_5.out.lt).alloc (.cells #[.int .u32 (fe : Int), .slice Ak fn ck] 25))
      have BB_6 := Lib.hid ((BB_5.out.trans (hb.mono BB_5.out.size)).alloc (BB_5.out.trans (hb.mono BB_5.out.size)).size (.cells #[.int .u32 (fe : Int), .slice Ak fn ck] 25))
      have HF_6 := Lib.hid ((HF_5.out.below hb).below (below1 _ (.cells #[.int .u32 (fe : Int), .slice Ak fn ck] 25)))
      have HB_6 := Lib.hid ((HB_5.out.below hb).below (below1 _ (.cells #[.int .u32 (fe : Int), .slice Ak fn ck] 25)))
      have HOm_6 := Lib.hid ((HOm_5.out.belowOwn hb).belowOwn (below1 _ (.cells #[.int .u32 (fe : Int), .slice Ak fn ck] 25)))
      have HOa_6 := Lib.hid ((HOa_5.out.belowOwn hb).belowOwn (below1 _ (.cells #[.int .u32 (fe : Int), .slice Ak fn ck] 25)))
      have HOb_6 := Lib.hid ((HOb_5.out.belowOwn hb).belowOwn (below1 _ (.cells #[.int .u32 (fe : Int), .slice Ak fn ck] 25)))
      have HND_6 := Lib.hid ((HND.out.below hb).below (below1 _ (.cells #[.int .u32 (fe : Int), .slice Ak fn ck] 25)))
      have LN6_6 := Lib.hid (Lies.made w6 25 #[.int .u32 (fe : Int), .slice Ak fn ck])
      clear hb
      clear c0_0 c0_1 f0_0 f0_1 c1_0 c1_1 f1_0 f1_1
      obtain ⟨c0_0, c0_1⟩ := LF_6.out.cells2
      obtain ⟨f0_0, f0_1⟩ := LF_6.out.free2
      obtain ⟨c1_0, c1_1⟩ := LN5_6.out.cells2
      obtain ⟨f1_0, f1_1⟩ := LN5_6.out.free2
      obtain ⟨c2_0, c2_1⟩ := LN6_6.out.cells2
      obtain ⟨f2_0, f2_1⟩ := LN6_6.out.free2
      go_wp2_with fail
      with_reducible refine (CW.out _ g cl HOm_6.out.bys.1 HB_6.out HC.out.1 H6.out).mono ?_
      rintro x w7 ⟨rfl, hb⟩
      clear CW
      have LF_7 := Lib.hid ((Lies.below LF_6.out hb LF_6.out.lt))
      have LN5_7 := Lib.hid ((Lies.below LN5_6.out hb LN5_6.out.lt))
      have LN6_7 := Lib.hid ((Lies.below LN6_6.out hb LN6_6.out.lt))
      have BB_7 := Lib.hid (BB_6.out.trans (hb.mono BB_6.out.size))
      have HF_7 := Lib.hid ((HF_6.out.below hb))
      have HB_7 := Lib.hid ((HB_6.out.below hb))
      have HOm_7 := Lib.hid ((HOm_6.out.belowOwn hb))
      have HOa_7 := Lib.hid ((HOa_6.out.belowOwn hb))
      have HOb_7 := Lib.hid ((HOb_6.out.belowOwn hb))
      have HND_7 := Lib.hid ((HND_6.out.below hb))
      have HFS_7 := Lib.hid ((HFS.out.below hb))
      clear hb
      clear c0_0 c0_1 f0_0 f0_1 c1_0 c1_1 f1_0 f1_1 c2_0 c2_1 f2_0 f2_1
      obtain ⟨c0_0, c0_1⟩ := LF_7.out.cells2
      obtain ⟨f0_0, f0_1⟩ := LF_7.out.free2
      obtain ⟨c1_0, c1_1⟩ := LN5_7.out.cells2
      obtain ⟨f1_0, f1_1⟩ := LN5_7.out.free2
      obtain ⟨c2_0, c2_1⟩ := LN6_7.out.cells2
      obtain ⟨f2_0, f2_1⟩ := LN6_7.out.free2
      clear c0_0 c0_1 f0_0 f0_1 c1_0 c1_1 f1_0 f1_1 c2_0 c2_1 f2_0 f2_1
      have CSp := Lib.hid (spoil_any g n1 cl _ _ (n1 + 2) w7 HOm_7.out (by omega) (by have := H6.out; omega))
      go_wp2_with fail
      with_reducible refine CSp.out.mono ?_
      rintro x w8 ⟨rfl, hg⟩
      have hg2 : g < w2.heap.size := HG2.out
      have hz3 : w2.heap.size ≤ w3.heap.size := S23.out
      have hz4 : w3.heap.size ≤ w4.heap.size := S34.out
      have hz5 : w4.heap.size ≤ w5.heap.size := S45.out
      have hz6 : w5.heap.size + 1 ≤ w6.heap.size := S56b.out
      have LF_8 := Lib.hid (Lies.grown5 LF_7.out (by decide) HOm_7.out hg)
      have LN5_8 := Lib.hid (Lies.grown5 LN5_7.out (by decide) HOm_7.out hg)
      have LN6_8 := Lib.hid (Lies.grown5 LN6_7.out (by decide) HOm_7.out hg)
      have BB_8 := Lib.hid (below_gOne BB_7.out hg BB_7.out.size HGS0.out)
      have HFx := Lib.hid (HF0.out.below BB_8.out)
      have HBx := Lib.hid (HB0.out.below BB_8.out)
      have HOa_8 := Lib.hid (HOa_7.out.gLow hg hg2)
      have HOb_8 := Lib.hid (HOb_7.out.gLow hg (Nat.lt_of_lt_of_le hg2 hz3))
      have HND_8 := Lib.hid (HND_7.out.gLow hg (Nat.lt_of_lt_of_le hg2 (Nat.le_trans hz3 hz4)))
      have HFS_8 := Lib.hid (HFS_7.out.grown hg (by simp; omega))
      have HFD : Hid (FV w8 Ad fn cd fT) := Lib.hid (by obtain ⟨A', c', hv, hf⟩ := HND_8.out.fv HYD.out; injection hv with z1 z2 z3; subst z1 z3; exact hf)
      have HFK := Lib.hid HFS_8.out.fv
      clear hg CSp hg2 hz3 hz4 hz5 hz6 HND_8 HFS_8
      obtain ⟨c0_0, c0_1⟩ := LF_8.out.cells2
      obtain ⟨f0_0, f0_1⟩ := LF_8.out.free2
      obtain ⟨c1_0, c1_1⟩ := LN5_8.out.cells2
      obtain ⟨f1_0, f1_1⟩ := LN5_8.out.free2
      obtain ⟨c2_0, c2_1⟩ := LN6_8.out.cells2
      obtain ⟨f2_0, f2_1⟩ := LN6_8.out.free2
      go_wp2_with fail
      with_reducible refine (CSB.out Aa Ab LA.length LA.length ca cb LA w8 HOa_8.out.bys.1 HOb_8.out.bys.1).mono ?_
      rintro x w9 ⟨rfl, rfl⟩
      go_wp2_with fail
      with_reducible refine (CSF.out fe Ad Ak fn cd ck fT _ HFD.out HFK.out).mono ?_
      rintro x w9 ⟨rfl, hb⟩
      have LF_9 := Lib.hid ((Lies.below LF_8.out hb LF_8.out.lt))
      have LN5_9 := Lib.hid ((Lies.below LN5_8.out hb LN5_8.out.lt))
      have LN6_9 := Lib.hid ((Lies.below LN6_8.out hb LN6_8.out.lt))
      have BB_9 := Lib.hid (BB_8.out.trans (hb.mono BB_8.out.size))
      have HFx_9 := Lib.hid ((HFx.out.below hb))
      have HBx_9 := Lib.hid ((HBx.out.below hb))
      have HOa_9 := Lib.hid ((HOa_8.out.belowOwn hb))
      have HOb_9 := Lib.hid ((HOb_8.out.belowOwn hb))
      have HFD_9 := Lib.hid ((HFD.out.below hb))
      have HFK_9 := Lib.hid ((HFK.out.below hb))
      clear hb
      clear c0_0 c0_1 f0_0 f0_1 c1_0 c1_1 f1_0 f1_1 c2_0 c2_1 f2_0 f2_1
      obtain ⟨c0_0, c0_1⟩ := LF_9.out.cells2
      obtain ⟨f0_0, f0_1⟩ := LF_9.out.free2
      obtain ⟨c1_0, c1_1⟩ := LN5_9.out.cells2
      obtain ⟨f1_0, f1_1⟩ := LN5_9.out.free2
      obtain ⟨c2_0, c2_1⟩ := LN6_9.out.cells2
      obtain ⟨f2_0, f2_1⟩ := LN6_9.out.free2
      rcases HCK.out with ⟨hp0, hok⟩ | ⟨hp0, hok⟩
      · have CGP2 := Lib.hid (CGP.out hok)
        have j0 : ((pc : Int) == 0) = true := by rw [hp0]; rfl
        have j1 : decide ((pc : Int) = 0) = true := by rw [hp0]; rfl
        have hLA2 : LA = putS ep n T := by rw [HLA.out, if_pos hok]
        have HBa : Hid (Bys w9 Aa LA.length (putS ep n T)) := Lib.hid (by have h := HOa_9.out.bys.1; rw [← hLA2]; exact h)
        clear hLA2
        go_wp2_with fail
        with_reducible refine (CGP2.out Aa LA.length ca _ HBa.out).mono ?_
        rintro x w10 ⟨vg, Yg, rfl, hnf, hyk, hb⟩
        obtain ⟨Ag, cg, rfl, hfg⟩ := hnf.fv hyk
        have HFG := Lib.hid (hfg.below (below1 w10 (.cells #[.int .u32 (ep : Int), .slice Ag n cg] 25)))
        clear hnf hyk hfg
        have LF_10 := Lib.hid ((Lies.below LF_9.out hb LF_9.out.lt).alloc (.cells #[.int .u32 (ep : Int), .slice Ag n cg] 25))
        have LN5_10 := Lib.hid ((Lies.below LN5_9.out hb LN5_9.out.lt).alloc (.cells #[.int .u32 (ep : Int), .slice Ag n cg] 25))
        have LN6_10 := Lib.hid ((Lies.below LN6_9.out hb LN6_9.out.lt).alloc (.cells #[.int .u32 (ep : Int), .slice Ag n cg] 25))
        have BB_10 := Lib.hid ((BB_9.out.trans (hb.mono BB_9.out.size)).alloc (BB_9.out.trans (hb.mono BB_9.out.size)).size (.cells #[.int .u32 (ep : Int), .slice Ag n cg] 25))
        have HFx_10 := Lib.hid ((HFx_9.out.below hb).below (below1 _ (.cells #[.int .u32 (ep : Int), .slice Ag n cg] 25)))
        have HBx_10 := Lib.hid ((HBx_9.out.below hb).below (below1 _ (.cells #[.int .u32 (ep : Int), .slice Ag n cg] 25)))
        have HOa_10 := Lib.hid ((HOa_9.out.belowOwn hb).belowOwn (below1 _ (.cells #[.int .u32 (ep : Int), .slice Ag n cg] 25)))
        have HOb_10 := Lib.hid ((HOb_9.out.belowOwn hb).belowOwn (below1 _ (.cells #[.int .u32 (ep : Int), .slice Ag n cg] 25)))
        have HFD_10 := Lib.hid ((HFD_9.out.below hb).below (below1 _ (.cells #[.int .u32 (ep : Int), .slice Ag n cg] 25)))
        have HFK_10 := Lib.hid ((HFK_9.out.below hb).below (below1 _ (.cells #[.int .u32 (ep : Int), .slice Ag n cg] 25)))
        have LN10_10 := Lib.hid (Lies.made w10 25 #[.int .u32 (ep : Int), .slice Ag n cg])
        clear hb
        clear c0_0 c0_1 f0_0 f0_1 c1_0 c1_1 f1_0 f1_1 c2_0 c2_1 f2_0 f2_1
        obtain ⟨c0_0, c0_1⟩ := LF_10.out.cells2
        obtain ⟨f0_0, f0_1⟩ := LF_10.out.free2
        obtain ⟨c1_0, c1_1⟩ := LN5_10.out.cells2
        obtain ⟨f1_0, f1_1⟩ := LN5_10.out.free2
        obtain ⟨c2_0, c2_1⟩ := LN6_10.out.cells2
        obtain ⟨f2_0, f2_1⟩ := LN6_10.out.free2
        obtain ⟨c3_0, c3_1⟩ := LN10_10.out.cells2
        obtain ⟨f3_0, f3_1⟩ := LN10_10.out.free2
        go_wp2_with fail
        with_reducible refine (CSF.out ep Ag A n cg c T _ HFG.out HFx_10.out).mono ?_
        rintro x w11 ⟨rfl, hb⟩
        have LF_11 := Lib.hid ((Lies.below LF_10.out hb LF_10.out.lt))
        have LN5_11 := Lib.hid ((Lies.below LN5_10.out hb LN5_10.out.lt))
        have LN6_11 := Lib.hid ((Lies.below LN6_10.out hb LN6_10.out.lt))
        have LN10_11 := Lib.hid ((Lies.below LN10_10.out hb LN10_10.out.lt))
        have BB_11 := Lib.hid (BB_10.out.trans (hb.mono BB_10.out.size))
        have HFx_11 := Lib.hid ((HFx_10.out.below hb))
        have HBx_11 := Lib.hid ((HBx_10.out.below hb))
        have HOa_11 := Lib.hid ((HOa_10.out.belowOwn hb))
        have HOb_11 := Lib.hid ((HOb_10.out.belowOwn hb))
        have HFD_11 := Lib.hid ((HFD_10.out.below hb))
        have HFK_11 := Lib.hid ((HFK_10.out.below hb))
        have HFG_11 := Lib.hid ((HFG.out.below hb))
        clear hb
        clear c0_0 c0_1 f0_0 f0_1 c1_0 c1_1 f1_0 f1_1 c2_0 c2_1 f2_0 f2_1 c3_0 c3_1 f3_0 f3_1
        obtain ⟨c0_0, c0_1⟩ := LF_11.out.cells2
        obtain ⟨f0_0, f0_1⟩ := LF_11.out.free2
        obtain ⟨c1_0, c1_1⟩ := LN5_11.out.cells2
        obtain ⟨f1_0, f1_1⟩ := LN5_11.out.free2
        obtain ⟨c2_0, c2_1⟩ := LN6_11.out.cells2
        obtain ⟨f2_0, f2_1⟩ := LN6_11.out.free2
        obtain ⟨c3_0, c3_1⟩ := LN10_11.out.cells2
        obtain ⟨f3_0, f3_1⟩ := LN10_11.out.free2
        rcases HGE.out with hg0 | hg0
        · have CPG2 := Lib.hid (CPG.out hg0)
          have k0 : ((ge : Int) == 0) = true := by rw [hg0]; rfl
          have k1 : decide ((ge : Int) = 0) = true := by rw [hg0]; rfl
          go_wp2_with fail
          with_reducible refine (CPG2.out Ad cd _ HFD_11.out).mono ?_
          rintro x w12 ⟨vq, rfl, ho, hb⟩
          obtain ⟨Aq, cq, rfl, -⟩ := ho.slice
          have HOq := Lib.hid ho
          clear ho
          have LF_12 := Lib.hid ((Lies.below LF_11.out hb LF_11.out.lt))
          have LN5_12 := Lib.hid ((Lies.below LN5_11.out hb LN5_11.out.lt))
          have LN6_12 := Lib.hid ((Lies.below LN6_11.out hb LN6_11.out.lt))
          have LN10_12 := Lib.hid ((Lies.below LN10_11.out hb LN10_11.out.lt))
          have BB_12 := Lib.hid (BB_11.out.trans (hb.mono BB_11.out.size))
          have HFx_12 := Lib.hid ((HFx_11.out.below hb))
          have HBx_12 := Lib.hid ((HBx_11.out.below hb))
          have HOa_12 := Lib.hid ((HOa_11.out.belowOwn hb))
          have HOb_12 := Lib.hid ((HOb_11.out.belowOwn hb))
          have HFD_12 := Lib.hid ((HFD_11.out.below hb))
          have HFK_12 := Lib.hid ((HFK_11.out.below hb))
          have HFG_12 := Lib.hid ((HFG_11.out.below hb))
          clear hb
          clear c0_0 c0_1 f0_0 f0_1 c1_0 c1_1 f1_0 f1_1 c2_0 c2_1 f2_0 f2_1 c3_0 c3_1 f3_0 f3_1
          obtain ⟨c0_0, c0_1⟩ := LF_12.out.cells2
          obtain ⟨f0_0, f0_1⟩ := LF_12.out.free2
          obtain ⟨c1_0, c1_1⟩ := LN5_12.out.cells2
          obtain ⟨f1_0, f1_1⟩ := LN5_12.out.free2
          obtain ⟨c2_0, c2_1⟩ := LN6_12.out.cells2
          obtain ⟨f2_0, f2_1⟩ := LN6_12.out.free2
          obtain ⟨c3_0, c3_1⟩ := LN10_12.out.cells2
          obtain ⟨f3_0, f3_1⟩ := LN10_12.out.free2
          have HBz := Lib.hid (InBytes.bys HBx_12.out)
          go_wp2_with fail
          with_reducible refine (CSB.out Aq A1 l.length n1 cq c1 l w12 HOq.out.bys.1 HBz.out).mono ?_
          rintro x w13 ⟨rfl, rfl⟩
          go_wp2_with fail
          with_reducible refine (CKN.out _).mono ?_
          rintro x wz ⟨rfl, hb⟩
          have BBk := Lib.hid (BB_12.out.trans (hb.mono BB_12.out.size))
          clear hb
          go_wp2
          go_ret
          exact ⟨rfl, BBk.out⟩
        · have k0 : ((ge : Int) == 0) = false := by rw [hg0]; rfl
          have k1 : decide ((ge : Int) = 0) = false := by rw [hg0]; rfl
          go_wp2_with fail
          with_reducible refine (CKN.out _).mono ?_
          rintro x wz ⟨rfl, hb⟩
          have BBk := Lib.hid (BB_11.out.trans (hb.mono BB_11.out.size))
          clear hb
          go_wp2
          go_ret
          exact ⟨rfl, BBk.out⟩
      · have j0 : ((pc : Int) == 0) = false := by rw [hp0]; rfl
        have j1 : decide ((pc : Int) = 0) = false := by rw [hp0]; rfl
        rcases HGE.out with hg0 | hg0
        · have CPG2 := Lib.hid (CPG.out hg0)
          have k0 : ((ge : Int) == 0) = true := by rw [hg0]; rfl
          have k1 : decide ((ge : Int) = 0) = true := by rw [hg0]; rfl
          go_wp2_with fail
          with_reducible refine (CPG2.out Ad cd _ HFD_9.out).mono ?_
          rintro x w10 ⟨vq, rfl, ho, hb⟩
          obtain ⟨Aq, cq, rfl, -⟩ := ho.slice
          have HOq := Lib.hid ho
          clear ho
          have LF_10 := Lib.hid ((Lies.below LF_9.out hb LF_9.out.lt))
          have LN5_10 := Lib.hid ((Lies.below LN5_9.out hb LN5_9.out.lt))
          have LN6_10 := Lib.hid ((Lies.below LN6_9.out hb LN6_9.out.lt))
          have BB_10 := Lib.hid (BB_9.out.trans (hb.mono BB_9.out.size))
          have HFx_10 := Lib.hid ((HFx_9.out.below hb))
          have HBx_10 := Lib.hid ((HBx_9.out.below hb))
          have HOa_10 := Lib.hid ((HOa_9.out.belowOwn hb))
          have HOb_10 := Lib.hid ((HOb_9.out.belowOwn hb))
          have HFD_10 := Lib.hid ((HFD_9.out.below hb))
          have HFK_10 := Lib.hid ((HFK_9.out.below hb))
          clear hb
          clear c0_0 c0_1 f0_0 f0_1 c1_0 c1_1 f1_0 f1_1 c2_0 c2_1 f2_0 f2_1
          obtain ⟨c0_0, c0_1⟩ := LF_10.out.cells2
          obtain ⟨f0_0, f0_1⟩ := LF_10.out.free2
          obtain ⟨c1_0, c1_1⟩ := LN5_10.out.cells2
          obtain ⟨f1_0, f1_1⟩ := LN5_10.out.free2
          obtain ⟨c2_0, c2_1⟩ := LN6_10.out.cells2
          obtain ⟨f2_0, f2_1⟩ := LN6_10.out.free2
          have HBz := Lib.hid (InBytes.bys HBx_10.out)
          go_wp2_with fail
          with_reducible refine (CSB.out Aq A1 l.length n1 cq c1 l w10 HOq.out.bys.1 HBz.out).mono ?_
          rintro x w11 ⟨rfl, rfl⟩
          go_wp2_with fail
          with_reducible refine (CKN.out _).mono ?_
          rintro x wz ⟨rfl, hb⟩
          have BBk := Lib.hid (BB_10.out.trans (hb.mono BB_10.out.size))
          clear hb
          go_wp2
          go_ret
          exact ⟨rfl, BBk.out⟩
        · have k0 : ((ge : Int) == 0) = false := by rw [hg0]; rfl
          have k1 : decide ((ge : Int) = 0) = false := by rw [hg0]; rfl
          go_wp2_with fail
          with_reducible refine (CKN.out _).mono ?_
          rintro x wz ⟨rfl, hb⟩
          have BBk := Lib.hid (BB_9.out.trans (hb.mono BB_9.out.size))
          clear hb
          go_wp2
          go_ret
          exact ⟨rfl, BBk.out⟩
  · go_wp2_with fail
    with_reducible refine (CKN.out _).mono ?_
    rintro x w2 ⟨rfl, hb⟩
    have BBk := Lib.hid (BB_1.out.trans (hb.mono BB_1.out.size))
    clear hb
    go_wp2
    go_ret
    exact ⟨rfl, BBk.out⟩

end Go.Proofs.Ytfcfejmammohpaa
