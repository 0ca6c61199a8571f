/-
  The contract of Find.
-/
import Derived.Test.YtfcfejmammohpaaChk
import Derived.Test.YtfcfejmammohpaaSearch
import Derived.Test.YtfcfejmammohpaaClone
namespace Go.Proofs.Ytfcfejmammohpaa
open Go.RowKit
set_option maxRecDepth 100000
set_option linter.unusedVariables false
set_option linter.unusedSimpArgs false

theorem KT.lens {x : Kx} (h : vk x.k = true) : x.k.a.length ≤ 255 ∧ x.k.r.length ≤ 255 := by
  have := (vk_iff _).1 h
  omega
/-- What Find answers. -/
def FindPost (w : World) (k : Kp) (f : Bool) (e : Ending) (w' : World) : Prop := ∃ y, e = .returned (.tuple #[.agg (kc y), .bool f]) ∧ NewK w' w.heap.size k y ∧ Below w.heap.size w w'
theorem newK_zero (w : World) (B : Nat) : NewK w B kz ⟨kz, .slice none 0 0, .slice none 0 0⟩ := ⟨rfl, Own.nil w B, Own.nil w B⟩
theorem findK_no {n : Nat} {T : Nat → Kp} {q : Int} (h : findB n T q = false) : findK n T q = kz := by
  unfold findB at h; unfold findK
  rw [if_neg (by rintro ⟨a, b⟩; rw [a, b] at h; cases h)]
set_option maxHeartbeats 8000000 in
theorem find_any (ep : Nat) (A : Option Addr) (n c : Nat) (T : Nat → Kp) (o : Nat) (s : Int) (u : Bool) (w : World) (hF : FV w A n c T) (hs : in64 s) :
    Calls Try.prog 16 #[.agg #[.int .u32 (ep : Int), .slice A n c], .int .u32 (o : Int), .int .i64 s, .bool u] w (FindPost w (findK n T (kn o s u)) (findB n T (kn o s u))) := by
  have CC := Lib.hid (fun W (h : FV W A n c T) => check_fence ep A n c T W h)
  have HF := Lib.hid hF
  have LF := Lib.hid ((Lies.made w 25 #[.int .u32 (ep : Int), .slice A n c]).alloc (.cells #[.int .u32 0, .int .i64 0, .bool false, .slice none 0 0, .int .i64 0, .slice none 0 0] 34))
  have LR := Lib.hid (Lies.made2 w (.cells #[.int .u32 (ep : Int), .slice A n c] 25) 34 #[.int .u32 0, .int .i64 0, .bool false, .slice none 0 0, .int .i64 0, .slice none 0 0])
  have BB := Lib.hid (below2 w (.cells #[.int .u32 (ep : Int), .slice A n c] 25) (.cells #[.int .u32 0, .int .i64 0, .bool false, .slice none 0 0, .int .i64 0, .slice none 0 0] 34))
  have HF0 := Lib.hid (hF.below BB.out)
  cases hok : okB n T
  · have HFB : Hid (findB n T (kn o s u) = false) := Lib.hid (by unfold findB; rw [hok]; rfl)
    rw [chkC_bad hok] at CC
    have HFK := Lib.hid (findK_no HFB.out)
    rw [HFB.out, HFK.out]
    clear hF hs hok HFB HFK
    go_enter Try.func16, Try.ntmps16
    go_wp2_with fail
    with_reducible refine (CC.out _ HF0.out).mono ?_
    rintro x w1 ⟨rfl, hb⟩
    have LF_1 := Lib.hid ((Lies.below LF.out hb LF.out.lt))
    have LR_1 := Lib.hid ((Lies.below LR.out hb LR.out.lt))
    have BB_1 := Lib.hid (BB.out.trans (hb.mono BB.out.size))
    clear hb
    obtain ⟨c0_0, c0_1⟩ := LF_1.out.cells2
    obtain ⟨f0_0, f0_1⟩ := LF_1.out.free2
    obtain ⟨c1_0, c1_1, c1_2, c1_3, c1_4, c1_5⟩ := LR_1.out.cells6
    obtain ⟨f1_0, f1_1, f1_2, f1_3, f1_4, f1_5⟩ := LR_1.out.free6
    go_wp2
    exact ret_keptB (w.heap.size + 1) 34 _ rfl rfl (LR_1.out.put6 _ _ _ _ _ _) rfl rfl ⟨_, rfl, newK_zero _ _, below_put6 BB_1.out (Nat.le_succ _) _ _ _ _ _ _⟩
  · rw [chkC_ok hok] at CC
    have HOK := Lib.hid ((okB_iff n T).1 hok)
    have CS := Lib.hid (fun W (h : FV W A n c T) => search_any A n c T o s u W h HOK.out hs)
    have HFB : Hid (findB n T (kn o s u) = has n T (kn o s u)) := Lib.hid (by unfold findB; rw [hok]; rfl)
    cases hh : has n T (kn o s u)
    · rw [hh] at HFB
      have HFK := Lib.hid (findK_no HFB.out)
      rw [HFB.out, HFK.out]
      unfold BsPost at CS
      rw [hh] at CS
      clear hF hs hok HFB HFK hh
      generalize pos T (kn o s u) n = m at *
      go_enter Try.func16, Try.ntmps16
      go_wp2_with fail
      with_reducible refine (CC.out _ HF0.out).mono ?_
      rintro x w1 ⟨rfl, hb⟩
      have LF_1 := Lib.hid ((Lies.below LF.out hb LF.out.lt))
      have LR_1 := Lib.hid ((Lies.below LR.out hb LR.out.lt))
      have BB_1 := Lib.hid (BB.out.trans (hb.mono BB.out.size))
      have HF0_1 := Lib.hid (HF0.out.below hb)
      clear hb
      obtain ⟨c0_0, c0_1⟩ := LF_1.out.cells2
      obtain ⟨f0_0, f0_1⟩ := LF_1.out.free2
      obtain ⟨c1_0, c1_1, c1_2, c1_3, c1_4, c1_5⟩ := LR_1.out.cells6
      obtain ⟨f1_0, f1_1, f1_2, f1_3, f1_4, f1_5⟩ := LR_1.out.free6
      go_wp2_with fail
      with_reducible refine (CS.out _ HF0_1.out).mono ?_
      rintro x w2 ⟨rfl, hb⟩
      have LF_2 := Lib.hid ((Lies.below LF_1.out hb LF_1.out.lt))
      have LR_2 := Lib.hid ((Lies.below LR_1.out hb LR_1.out.lt))
      have BB_2 := Lib.hid (BB_1.out.trans (hb.mono BB_1.out.size))
      have HF0_2 := Lib.hid (HF0_1.out.below hb)
      clear hb
      clear c0_0 c0_1 f0_0 f0_1 c1_0 c1_1 c1_2 c1_3 c1_4 c1_5 f1_0 f1_1 f1_2 f1_3 f1_4 f1_5
      obtain ⟨c0_0, c0_1⟩ := LF_2.out.cells2
      obtain ⟨f0_0, f0_1⟩ := LF_2.out.free2
      obtain ⟨c1_0, c1_1, c1_2, c1_3, c1_4, c1_5⟩ := LR_2.out.cells6
      obtain ⟨f1_0, f1_1, f1_2, f1_3, f1_4, f1_5⟩ := LR_2.out.free6
      go_wp2
      exact ret_keptB (w.heap.size + 1) 34 _ rfl rfl (LR_2.out.put6 _ _ _ _ _ _) rfl rfl ⟨_, rfl, newK_zero _ _, below_put6 BB_2.out (Nat.le_succ _) _ _ _ _ _ _⟩
    · rw [hh] at HFB
      obtain ⟨hm, hmk⟩ := has_at hh
      have HFK : Hid (findK n T (kn o s u) = T (pos T (kn o s u) n)) := Lib.hid (by unfold findK; rw [if_pos ⟨hok, hh⟩])
      rw [HFB.out, HFK.out]
      unfold BsPost at CS
      rw [hh] at CS
      clear hs hok HFB HFK hh hmk
      generalize pos T (kn o s u) n = m at *
      obtain ⟨_, _, _, X, hK, hX⟩ := hF
      obtain ⟨b, off, rfl, _⟩ := hK.1 (by omega)
      have hi : (m : Int) < (n : Int) := by omega
      have HVM : Hid (vk (X m).k = true) := Lib.hid (by rw [hX m hm]; exact (HOK.out.2 m hm).1)
      have HLN := Lib.hid (KT.lens HVM.out)
      have CL := Lib.hid (fun W (hW : Below w.heap.size w W) => clone_any (X m) W ((hK.below hW).2 m hm) (Nat.le_trans HLN.out.1 (by decide)) (Nat.le_trans HLN.out.2 (by decide)))
      have HAT := Lib.hid (fun W (hW : Below w.heap.size w W) => (hK.below hW).at m hm)
      have HE := Lib.hid (hX m hm)
      rw [HE.out] at CL
      rw [← HE.out]
      rw [← HE.out] at CL
      clear hK hX
      obtain ⟨xj, hxj⟩ : ∃ x, X m = x := ⟨_, rfl⟩
      rw [hxj] at CL HAT HLN HVM HE ⊢
      clear hxj HE
      obtain ⟨⟨xo, xs, xu, xa, xc, xr⟩, xK, xD⟩ := xj
      dsimp only at *
      go_enter Try.func16, Try.ntmps16
      go_wp2_with fail
      with_reducible refine (CC.out _ HF0.out).mono ?_
      rintro x w1 ⟨rfl, hb⟩
      have LF_1 := Lib.hid ((Lies.below LF.out hb LF.out.lt))
      have LR_1 := Lib.hid ((Lies.below LR.out hb LR.out.lt))
      have BB_1 := Lib.hid (BB.out.trans (hb.mono BB.out.size))
      have HF0_1 := Lib.hid (HF0.out.below hb)
      clear hb
      obtain ⟨c0_0, c0_1⟩ := LF_1.out.cells2
      obtain ⟨f0_0, f0_1⟩ := LF_1.out.free2
      obtain ⟨c1_0, c1_1, c1_2, c1_3, c1_4, c1_5⟩ := LR_1.out.cells6
      obtain ⟨f1_0, f1_1, f1_2, f1_3, f1_4, f1_5⟩ := LR_1.out.free6
      go_wp2_with fail
      with_reducible refine (CS.out _ HF0_1.out).mono ?_
      rintro x w2 ⟨rfl, hb⟩
      have LF_2 := Lib.hid ((Lies.below LF_1.out hb LF_1.out.lt))
      have LR_2 := Lib.hid ((Lies.below LR_1.out hb LR_1.out.lt))
      have BB_2 := Lib.hid (BB_1.out.trans (hb.mono BB_1.out.size))
      have HF0_2 := Lib.hid (HF0_1.out.below hb)
      clear hb
      clear c0_0 c0_1 f0_0 f0_1 c1_0 c1_1 c1_2 c1_3 c1_4 c1_5 f1_0 f1_1 f1_2 f1_3 f1_4 f1_5
      obtain ⟨c0_0, c0_1⟩ := LF_2.out.cells2
      obtain ⟨f0_0, f0_1⟩ := LF_2.out.free2
      obtain ⟨c1_0, c1_1, c1_2, c1_3, c1_4, c1_5⟩ := LR_2.out.cells6
      obtain ⟨f1_0, f1_1, f1_2, f1_3, f1_4, f1_5⟩ := LR_2.out.free6
      obtain ⟨q0, q1, q2, q3, q4, q5⟩ := HAT.out _ BB_2.out
      go_wp2_with fail
      with_reducible refine (CL.out _ BB_2.out).mono ?_
      rintro x w3 ⟨y, rfl, hy, hb⟩
      have NY := Lib.hid hy
      clear hy
      obtain ⟨E1, d1, z1, -⟩ := NY.out.2.1.slice
      obtain ⟨E2, d2, z2, -⟩ := NY.out.2.2.slice
      clear q0 q1 q2 q3 q4 q5
      have hyk := NY.out.1
      obtain ⟨yk, yK, yD⟩ := y
      dsimp only at *
      subst z1 z2 hyk
      try dsimp only at *
      have LF_3 := Lib.hid ((Lies.below LF_2.out hb LF_2.out.lt))
      have LR_3 := Lib.hid ((Lies.below LR_2.out hb LR_2.out.lt))
      have BB_3 := Lib.hid (BB_2.out.trans (hb.mono BB_2.out.size))
      have HF0_3 := Lib.hid (HF0_2.out.below hb)
      clear hb
      clear c0_0 c0_1 f0_0 f0_1 c1_0 c1_1 c1_2 c1_3 c1_4 c1_5 f1_0 f1_1 f1_2 f1_3 f1_4 f1_5
      obtain ⟨c0_0, c0_1⟩ := LF_3.out.cells2
      obtain ⟨f0_0, f0_1⟩ := LF_3.out.free2
      obtain ⟨c1_0, c1_1, c1_2, c1_3, c1_4, c1_5⟩ := LR_3.out.cells6
      obtain ⟨f1_0, f1_1, f1_2, f1_3, f1_4, f1_5⟩ := LR_3.out.free6
      go_wp2
      refine ret_keptB (w.heap.size + 1) 34 _ rfl rfl (LR_3.out.put6 _ _ _ _ _ _) rfl rfl ⟨⟨_, _, _⟩, rfl, ⟨rfl, ?_, ?_⟩, below_put6 BB_3.out (Nat.le_succ _) _ _ _ _ _ _⟩
      · exact (NY.out.2.1.put6 LR_3.out (by decide) _ _ _ _ _ _).mono BB_2.out.size
      · exact (NY.out.2.2.put6 LR_3.out (by decide) _ _ _ _ _ _).mono BB_2.out.size

end Go.Proofs.Ytfcfejmammohpaa
