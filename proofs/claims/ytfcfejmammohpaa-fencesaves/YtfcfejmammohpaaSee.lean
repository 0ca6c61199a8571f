/-
  The contract of See.
-/
import Derived.Test.YtfcfejmammohpaaKeepP
namespace Go.Proofs.Ytfcfejmammohpaa
open Go.RowKit
set_option maxRecDepth 100000
set_option linter.unusedVariables false
set_option linter.unusedSimpArgs false

theorem OwnK.lies_put {w : World} {B : Nat} {v : Value} {n : Nat} {X : Nat → Kx} {g : Nat} {t : TypeId} {cs : Array Value} (h : OwnK w B v n X) (hL : Lies w g t cs) (ht : t ≠ 34) (o : Nat) (u : Value) : OwnK (w.setCell ⟨g, o, none⟩ u) B v n X :=
  h.same (fun k hk => heap_setCell_other _ ⟨g, o, none⟩ k _ (fun q => h.ne hL ht (by rw [hk, q])))
theorem NF.lies_put {w : World} {B : Nat} {v : Value} {n : Nat} {X : Nat → Kx} {g : Nat} {t : TypeId} {cs : Array Value} (h : NF w B v n X) (hL : Lies w g t cs) (ht : t ≠ 34) (ht5 : t ≠ 5) (o : Nat) (u : Value) : NF (w.setCell ⟨g, o, none⟩ u) B v n X :=
  ⟨h.row.lies_put hL ht o u, fun i hi => (h.a i hi).lies_put hL ht5 o u, fun i hi => (h.r i hi).lies_put hL ht5 o u, h.b, h.da, h.dr⟩
theorem NF.put2 {w : World} {B : Nat} {v : Value} {n : Nat} {X : Nat → Kx} {g : Nat} {z0 z1 : Value} (h : NF w B v n X) (hL : Lies w g 25 #[z0, z1]) (a b : Value) : NF (Go.Proofs.Ytfcfejmammohpaa.put2 w g a b) B v n X :=
  (h.lies_put hL (by decide) (by decide) 0 a).lies_put (hL.put 0 a) (by decide) (by decide) 1 b
set_option maxHeartbeats 8000000 in
theorem see_any (ep : Nat) (A : Option Addr) (n c : Nat) (T : Nat → Kp) (e : Nat) (w : World) (hF : FV w A n c T) :
    Calls Try.prog 18 #[.agg #[.int .u32 (ep : Int), .slice A n c], .int .u32 (e : Int)] w (FencePost w (seeE ep n T e) (seeF ep n T e)) := by
  have CK := Lib.hid (fun W (h : FV W A n c T) => check_fence ep A n c T W h)
  have BB := Lib.hid (below2 w (.cells #[.int .u32 (ep : Int), .slice A n c] 25) (.cells #[.int .u32 0, .slice none 0 0] 25))
  have LF := Lib.hid ((Lies.made w 25 #[.int .u32 (ep : Int), .slice A n c]).alloc (.cells #[.int .u32 0, .slice none 0 0] 25))
  have LR := Lib.hid (Lies.made2 w (.cells #[.int .u32 (ep : Int), .slice A n c] 25) 25 #[.int .u32 0, .slice none 0 0])
  have HF := Lib.hid (hF.below BB.out)
  cases hok : okB n T
  · rw [show seeE ep n T e = 2 from by unfold seeE; rw [hok]; rfl, show seeF ep n T e = fz from by unfold seeF seeE; rw [hok]; rfl]
    rw [chkC_bad hok] at CK
    clear hF hok
    go_enter Try.func18, Try.ntmps18
    go_wp2_with fail
    with_reducible refine (CK.out _ HF.out).mono ?_
    rintro x w1 ⟨rfl, hb⟩
    have LF_1 := Lib.hid ((Lies.below LF.out hb LF.out.lt))
    have LR_1 := Lib.hid ((Lies.below LR.out hb LR.out.lt))
    have BB_1 := Lib.hid (BB.out.trans (hb.mono BB.out.size))
    clear hb
    obtain ⟨c0_0, c0_1⟩ := LF_1.out.cells2
    obtain ⟨f0_0, f0_1⟩ := LF_1.out.free2
    obtain ⟨c1_0, c1_1⟩ := LR_1.out.cells2
    obtain ⟨f1_0, f1_1⟩ := LR_1.out.free2
    rw [show ((2 : Nat) : Int) = 2 from rfl]
    go_wp2
    exact ret_fence (w.heap.size + 1) 25 _ rfl rfl (LR_1.out.put2 _ _) rfl rfl ⟨_, fun _ => ⟨kz, .slice none 0 0, .slice none 0 0⟩, rfl, NF.nil _ _ _, (fun i hi => absurd hi (Nat.not_lt_zero i)), below_put2 BB_1.out (Nat.le_succ _) _ _⟩
  · rw [chkC_ok hok] at CK
    by_cases hst : e < ep
    · rw [show seeE ep n T e = 72 from by unfold seeE; rw [if_pos hok, if_pos hst], show seeF ep n T e = fz from by unfold seeF seeE; rw [if_pos hok, if_pos hst]; rfl]
      have ds : decide ((e : Int) < (ep : Int)) = true := by rw [decide_eq_true_iff]; omega
      have ds2 : decide (e < ep) = true := by rw [decide_eq_true_iff]; omega
      clear hF hok hst
      go_enter Try.func18, Try.ntmps18
      go_wp2_with fail
      with_reducible refine (CK.out _ HF.out).mono ?_
      rintro x w1 ⟨rfl, hb⟩
      have LF_1 := Lib.hid ((Lies.below LF.out hb LF.out.lt))
      have LR_1 := Lib.hid ((Lies.below LR.out hb LR.out.lt))
      have BB_1 := Lib.hid (BB.out.trans (hb.mono BB.out.size))
      clear hb
      obtain ⟨c0_0, c0_1⟩ := LF_1.out.cells2
      obtain ⟨f0_0, f0_1⟩ := LF_1.out.free2
      obtain ⟨c1_0, c1_1⟩ := LR_1.out.cells2
      obtain ⟨f1_0, f1_1⟩ := LR_1.out.free2
      rw [show ((0 : Nat) : Int) = 0 from rfl]
      go_wp2
      exact ret_fence (w.heap.size + 1) 25 _ rfl rfl (LR_1.out.put2 _ _) rfl rfl ⟨_, fun _ => ⟨kz, .slice none 0 0, .slice none 0 0⟩, rfl, NF.nil _ _ _, (fun i hi => absurd hi (Nat.not_lt_zero i)), below_put2 BB_1.out (Nat.le_succ _) _ _⟩
    · rw [show seeE ep n T e = 0 from by unfold seeE; rw [if_pos hok, if_neg hst], show seeF ep n T e = ⟨e, n, T⟩ from by unfold seeF seeE; rw [if_pos hok, if_neg hst, if_pos rfl]]
      have ds : decide ((e : Int) < (ep : Int)) = false := by rw [decide_eq_false_iff_not]; omega
      have ds2 : decide (e < ep) = false := by rw [decide_eq_false_iff_not]; omega
      have HOK := (okB_iff n T).1 hok
      obtain ⟨hnc, hcm, hAc, X, hK, hX⟩ := hF
      have hn2 := HOK.1
      have HVX : Hid (∀ i, i < n → (X i).k.a.length ≤ 100000 ∧ (X i).k.r.length ≤ 100000) := Lib.hid (fun i hi => by
        have h1 := KT.lens (x := X i) (by rw [hX i hi]; exact (HOK.2 i hi).1)
        omega)
      have CC := Lib.hid (fun W (hb : Below w.heap.size w W) => cloneAll_any A n c X W (hK.below hb) hnc hAc (by omega) HVX.out)
      have HX := Lib.hid hX
      clear hK hX hAc hok hst HOK
      go_enter Try.func18, Try.ntmps18
      go_wp2_with fail
      with_reducible refine (CK.out _ HF.out).mono ?_
      rintro x w1 ⟨rfl, hb⟩
      have LF_1 := Lib.hid ((Lies.below LF.out hb LF.out.lt))
      have LR_1 := Lib.hid ((Lies.below LR.out hb LR.out.lt))
      have BB_1 := Lib.hid (BB.out.trans (hb.mono BB.out.size))
      clear hb
      obtain ⟨c0_0, c0_1⟩ := LF_1.out.cells2
      obtain ⟨f0_0, f0_1⟩ := LF_1.out.free2
      obtain ⟨c1_0, c1_1⟩ := LR_1.out.cells2
      obtain ⟨f1_0, f1_1⟩ := LR_1.out.free2
      rw [show ((0 : Nat) : Int) = 0 from rfl]
      go_wp2_with fail
      with_reducible refine (CC.out _ BB_1.out).mono ?_
      rintro x w2 ⟨v, Y, rfl, hnf, hyk, hb⟩
      have NF2 := Lib.hid hnf
      have HYK := Lib.hid hyk
      obtain ⟨E1, d1, z1, -⟩ := hnf.row.slice
      clear hnf hyk
      subst z1
      have LF_2 := Lib.hid ((Lies.below LF_1.out hb LF_1.out.lt))
      have LR_2 := Lib.hid ((Lies.below LR_1.out hb LR_1.out.lt))
      have BB_2 := Lib.hid (BB_1.out.trans (hb.mono BB_1.out.size))
      clear hb
      clear c0_0 c0_1 f0_0 f0_1 c1_0 c1_1 f1_0 f1_1
      obtain ⟨c0_0, c0_1⟩ := LF_2.out.cells2
      obtain ⟨f0_0, f0_1⟩ := LF_2.out.free2
      obtain ⟨c1_0, c1_1⟩ := LR_2.out.cells2
      obtain ⟨f1_0, f1_1⟩ := LR_2.out.free2
      go_wp2
      refine ret_fence (w.heap.size + 1) 25 _ rfl rfl (LR_2.out.put2 _ _) rfl rfl ⟨_, Y, rfl, ?_, (fun i hi => (HYK.out i hi).trans (HX.out i hi)), below_put2 BB_2.out (Nat.le_succ _) _ _⟩
      exact (NF.put2 NF2.out LR_2.out _ _).mono BB_1.out.size

end Go.Proofs.Ytfcfejmammohpaa
