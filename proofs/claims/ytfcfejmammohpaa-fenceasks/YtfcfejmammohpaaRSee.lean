/-
  The contract of the document's See.
-/
import Derived.Test.YtfcfejmammohpaaRChk
import Derived.Test.YtfcfejmammohpaaCopyF
namespace Go.Proofs.Ytfcfejmammohpaa
open Go.RowKit
set_option maxRecDepth 100000
set_option linter.unusedVariables false
set_option linter.unusedSimpArgs false

set_option maxHeartbeats 8000000 in
theorem rsee_any (ep : Nat) (A : Option Addr) (n c : Nat) (T : Nat → Kp) (e : Nat) (w : World) (hF : FV w A n c T) :
    Calls Try.prog 19 #[.agg #[.int .u32 (ep : Int), .slice A n c], .int .u32 (e : Int)] w (FencePost w (seeE ep n T e) (seeF ep n T e)) := by
  have CK := Lib.hid (fun W (h : FV W A n c T) => rcheck_fence ep A n c T W h)
  have BB := Lib.hid (below2 w (.cells #[.int .u32 (ep : Int), .slice A n c] 25) (.cells #[.int .u32 0, .slice none 0 0] 25))
  have LF := Lib.hid ((Lies.made w 25 #[.int .u32 (ep : Int), .slice A n c]).alloc (.cells #[.int .u32 0, .slice none 0 0] 25))
  have LR := Lib.hid (Lies.made2 w (.cells #[.int .u32 (ep : Int), .slice A n c] 25) 25 #[.int .u32 0, .slice none 0 0])
  have HF := Lib.hid (hF.below BB.out)
  cases hok : okB n T
  · rw [show seeE ep n T e = 2 from by unfold seeE; rw [hok]; rfl, show seeF ep n T e = fz from by unfold seeF seeE; rw [hok]; rfl]
    rw [chkC_bad hok] at CK
    clear hF hok
    go_enter Try.func19, Try.ntmps19
    go_wp2_with fail
    with_reducible refine (CK.out _ HF.out).mono ?_
    rintro x w1 ⟨rfl, hb⟩
    have LF_1 := Lib.hid ((Lies.below LF.out hb LF.out.lt))
    have LR_1 := Lib.hid ((Lies.below LR.out hb LR.out.lt))
    have BB_1 := Lib.hid (BB.out.trans (hb.mono BB.out.size))
    clear hb
    obtain ⟨c0_0, c0_1⟩ := LF_1.out.cells2
    obtain ⟨f0_0, f0_1⟩ := LF_1.out.free2
    obtain ⟨c1_0, c1_1⟩ := LR_1.out.cells2
    obtain ⟨f1_0, f1_1⟩ := LR_1.out.free2
    rw [show ((2 : Nat) : Int) = 2 from rfl]
    go_wp2
    exact ret_fence (w.heap.size + 1) 25 _ rfl rfl (LR_1.out.put2 _ _) rfl rfl ⟨_, fun _ => ⟨kz, .slice none 0 0, .slice none 0 0⟩, rfl, NF.nil _ _ _, (fun i hi => absurd hi (Nat.not_lt_zero i)), below_put2 BB_1.out (Nat.le_succ _) _ _⟩
  · rw [chkC_ok hok] at CK
    by_cases hst : e < ep
    · rw [show seeE ep n T e = 72 from by unfold seeE; rw [if_pos hok, if_pos hst], show seeF ep n T e = fz from by unfold seeF seeE; rw [if_pos hok, if_pos hst]; rfl]
      have ds : decide ((e : Int) < (ep : Int)) = true := by rw [decide_eq_true_iff]; omega
      have ds2 : decide (e < ep) = true := by rw [decide_eq_true_iff]; omega
      clear hF hok hst
      go_enter Try.func19, Try.ntmps19
      go_wp2_with fail
      with_reducible refine (CK.out _ HF.out).mono ?_
      rintro x w1 ⟨rfl, hb⟩
      have LF_1 := Lib.hid ((Lies.below LF.out hb LF.out.lt))
      have LR_1 := Lib.hid ((Lies.below LR.out hb LR.out.lt))
      have BB_1 := Lib.hid (BB.out.trans (hb.mono BB.out.size))
      clear hb
      obtain ⟨c0_0, c0_1⟩ := LF_1.out.cells2
      obtain ⟨f0_0, f0_1⟩ := LF_1.out.free2
      obtain ⟨c1_0, c1_1⟩ := LR_1.out.cells2
      obtain ⟨f1_0, f1_1⟩ := LR_1.out.free2
      rw [show ((0 : Nat) : Int) = 0 from rfl]
      go_wp2
      exact ret_fence (w.heap.size + 1) 25 _ rfl rfl (LR_1.out.put2 _ _) rfl rfl ⟨_, fun _ => ⟨kz, .slice none 0 0, .slice none 0 0⟩, rfl, NF.nil _ _ _, (fun i hi => absurd hi (Nat.not_lt_zero i)), below_put2 BB_1.out (Nat.le_succ _) _ _⟩
    · rw [show seeE ep n T e = 0 from by unfold seeE; rw [if_pos hok, if_neg hst], show seeF ep n T e = ⟨e, n, T⟩ from by unfold seeF seeE; rw [if_pos hok, if_neg hst, if_pos rfl]]
      have ds : decide ((e : Int) < (ep : Int)) = false := by rw [decide_eq_false_iff_not]; omega
      have ds2 : decide (e < ep) = false := by rw [decide_eq_false_iff_not]; omega
      have HOK := (okB_iff n T).1 hok
      have hn2 := HOK.1
      have CC := Lib.hid (fun W (h : FV W A n c T) => copy_fence ep A n c T W h (by omega) (fun i hi => by
        have h1 := (vk_iff _).1 (HOK.2 i hi).1
        omega))
      clear hok hst HOK hF
      go_enter Try.func19, Try.ntmps19
      go_wp2_with fail
      with_reducible refine (CK.out _ HF.out).mono ?_
      rintro x w1 ⟨rfl, hb⟩
      have LF_1 := Lib.hid ((Lies.below LF.out hb LF.out.lt))
      have LR_1 := Lib.hid ((Lies.below LR.out hb LR.out.lt))
      have BB_1 := Lib.hid (BB.out.trans (hb.mono BB.out.size))
      have HF_1 := Lib.hid ((HF.out.below hb))
      clear hb
      obtain ⟨c0_0, c0_1⟩ := LF_1.out.cells2
      obtain ⟨f0_0, f0_1⟩ := LF_1.out.free2
      obtain ⟨c1_0, c1_1⟩ := LR_1.out.cells2
      obtain ⟨f1_0, f1_1⟩ := LR_1.out.free2
      rw [show ((0 : Nat) : Int) = 0 from rfl]
      go_wp2_with fail
      with_reducible refine (CC.out _ HF_1.out).mono ?_
      rintro x w2 ⟨v, Y, rfl, hnf, hyk, hb⟩
      have NF2 := Lib.hid hnf
      have HYK := Lib.hid hyk
      obtain ⟨E1, d1, z1, -⟩ := hnf.row.slice
      have LRw := Lib.hid (LR_1.out.below hb LR_1.out.lt)
      have BBw := Lib.hid (BB_1.out.trans (hb.mono BB_1.out.size))
      clear hnf hyk
      subst z1
      have LF_2 := Lib.hid ((Lies.below LF_1.out hb LF_1.out.lt).alloc (.cells #[.int .u32 (ep : Int), .slice E1 n d1] 25))
      have LR_2 := Lib.hid ((Lies.below LR_1.out hb LR_1.out.lt).alloc (.cells #[.int .u32 (ep : Int), .slice E1 n d1] 25))
      have BB_2 := Lib.hid ((BB_1.out.trans (hb.mono BB_1.out.size)).alloc (BB_1.out.trans (hb.mono BB_1.out.size)).size (.cells #[.int .u32 (ep : Int), .slice E1 n d1] 25))
      have HF_2 := Lib.hid ((HF_1.out.below hb).below (below1 _ (.cells #[.int .u32 (ep : Int), .slice E1 n d1] 25)))
      have LN2_2 := Lib.hid (Lies.made w2 25 #[.int .u32 (ep : Int), .slice E1 n d1])
      clear hb
      clear c0_0 c0_1 f0_0 f0_1 c1_0 c1_1 f1_0 f1_1
      obtain ⟨c0_0, c0_1⟩ := LF_2.out.cells2
      obtain ⟨f0_0, f0_1⟩ := LF_2.out.free2
      obtain ⟨c1_0, c1_1⟩ := LR_2.out.cells2
      obtain ⟨f1_0, f1_1⟩ := LR_2.out.free2
      obtain ⟨c2_0, c2_1⟩ := LN2_2.out.cells2
      obtain ⟨f2_0, f2_1⟩ := LN2_2.out.free2
      clear c0_0 c0_1 f0_0 f0_1 c1_0 c1_1 f1_0 f1_1 c2_0 c2_1 f2_0 f2_1
      skip
      obtain ⟨c0_0, c0_1⟩ := LR_2.out.cells2
      obtain ⟨f0_0, f0_1⟩ := LR_2.out.free2
      have LRn := Lib.hid (LRw.out.alloc (.cells #[.int .u32 (e : Int), .slice E1 n d1] 25))
      obtain ⟨g0, g1⟩ := LRn.out.cells2
      obtain ⟨h0, h1⟩ := LRn.out.free2
      go_wp2
      refine ret_fence (w.heap.size + 1) 25 _ rfl rfl (LRn.out.put2 _ _) rfl rfl ⟨_, Y, rfl, (NF.put2 (NF2.out.below (below1 w2 (.cells #[.int .u32 (e : Int), .slice E1 n d1] 25))) LRn.out _ _).mono BB_1.out.size, HYK.out, below_put2 (BBw.out.alloc BBw.out.size (.cells #[.int .u32 (e : Int), .slice E1 n d1] 25)) (Nat.le_succ _) _ _⟩

end Go.Proofs.Ytfcfejmammohpaa
