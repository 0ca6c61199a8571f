/-
  FenceKeeps, walked.
-/
import Derived.Test.YtfcfejmammohpaaMany
import Derived.Test.YtfcfejmammohpaaKeep
import Derived.Test.YtfcfejmammohpaaRKeepA
import Derived.Test.YtfcfejmammohpaaSameF
import Derived.Test.YtfcfejmammohpaaSpoilK
import Derived.Test.YtfcfejmammohpaaCopyF
import Derived.Test.YtfcfejmammohpaaIn8
import Derived.Test.YtfcfejmammohpaaKnownP
namespace Go.Proofs.Ytfcfejmammohpaa
open Go.RowKit
set_option maxRecDepth 100000
set_option linter.unusedVariables false
set_option linter.unusedSimpArgs false

/-- The first j of what Keep gave are written over. -/
def KwR (w2 : World) (B7 : Nat) (As : Option Addr) (m cs : Nat) (Ys : Nat → Kx) (gS gX gF : Nat) (fs fx ff : Array Value) (i : Value) (wr : World) : Prop :=
  ∃ (j : Nat) (X : Nat → Kx), j ≤ m ∧ i = .int .i64 (j : Int) ∧ OwnK wr B7 (.slice As m cs) m X ∧ (∀ k, j ≤ k → k < m → X k = Ys k) ∧ (∀ k, j ≤ k → k < m → Own wr B7 (Ys k).K (Ys k).k.a) ∧
    Lies wr gS 25 fs ∧ Lies wr gX 25 fx ∧ Lies wr gF 25 ff ∧ Below w2.heap.size w2 wr
set_option maxHeartbeats 32000000 in
theorem fenceKeeps_walk (ep : Nat) (A : Option Addr) (n c : Nat) (T : Nat → Kp) (N : Note) (A1 A2 : Option Addr) (c1 c2 : Nat) (code : Int) (A3 : Option Addr) (n3 c3 : Nat) (reply : List Nat) (w : World) (hep : ep < 4294967296) (hF : FV w A n c T) (hN : EntV w N A1 A2 c1 c2) (hs : in64 N.step) (hcode : in64 code) (hR : InBytes w A3 n3 c3 reply) (KN : ∀ W, Calls Try.prog 12 #[] W fun x w' => x = .returned (.bool true) ∧ Below W.heap.size W w') :
    Calls Try.prog 4 #[.agg #[.int .u32 (ep : Int), .slice A n c], .agg (evs N (.slice A1 N.key.length c1) (.slice A2 N.data.length c2)), .int .i64 code, .slice A3 n3 c3] w fun x w' => x = .returned (.bool true) ∧ Below w.heap.size w w' := by
  have CM := Lib.hid (fun W (h : FV W A n c T) => many_any ep A n c T N A1 A2 c1 c2 W h (Nat.le_trans hN.dc hN.dm))
  have CKN := Lib.hid KN
  clear KN
  have BB := Lib.hid (below2 w (.cells #[.int .u32 (ep : Int), .slice A n c] 25) (.cells (evs N (.slice A1 N.key.length c1) (.slice A2 N.data.length c2)) 29))
  have LF := Lib.hid ((Lies.made w 25 #[.int .u32 (ep : Int), .slice A n c]).alloc (.cells (evs N (.slice A1 N.key.length c1) (.slice A2 N.data.length c2)) 29))
  have LN := Lib.hid (Lies.made2 w (.cells #[.int .u32 (ep : Int), .slice A n c] 25) 29 (evs N (.slice A1 N.key.length c1) (.slice A2 N.data.length c2)))
  have HF := Lib.hid (hF.below BB.out)
  have HN := Lib.hid (hN.below BB.out)
  have HD : Hid (InBytes _ A2 N.data.length c2 N.data) := Lib.hid ⟨HN.out.d, HN.out.dc, HN.out.dm, HN.out.da⟩
  have HR := Lib.hid (hR.below BB.out)
  have CC := Lib.hid (fun W (h : FV W A n c T) (hsm : Small n T N) => copy_fence ep A n c T W h (by have := hsm.1; omega) (fun i hi => by have := hsm.2.2 i hi; omega))
  have CL1 := Lib.hid (fun W (h : InBytes W A2 N.data.length c2 N.data) (hsm : N.data.length ≤ 40000) => lent_own A2 N.data.length c2 N.data W h.1 h.2.2.2 (by omega))
  have CL2 := Lib.hid (fun W (h : InBytes W A3 n3 c3 reply) (hsm : n3 ≤ 1000) => lent_own A3 n3 c3 reply W h.1 h.2.2.2 (by omega))
  have CK := Lib.hid (fun W Ax cx g cl g2 cr (h : FV W Ax n cx T) (hk : EntV W N A1 A2 c1 c2) (hd : Bys W (some ⟨g, 0, none⟩) N.data.length N.data) (h1 : N.data.length ≤ cl) (h2 : cl ≤ maxLen) (hr : Bys W (some ⟨g2, 0, none⟩) n3 reply) (h3 : n3 ≤ cr) (h4 : cr ≤ maxLen) => keep_any ep Ax n cx T N A1 (some ⟨g, 0, none⟩) c1 cl code (some ⟨g2, 0, none⟩) n3 cr reply W h ⟨hk.k, hk.kc, hk.km, hk.ka, hd, h1, h2, (fun e => by cases e), hk.b⟩ hs hep hcode hr h3 h4 (fun e => by cases e))
  have CRK := Lib.hid (fun W (h : FV W A n c T) (hn : EntV W N A1 A2 c1 c2) (hr : InBytes W A3 n3 c3 reply) => rkeep_any ep A n c T N A1 A2 c1 c2 code A3 n3 c3 reply W h hn hs hep hcode hr.1 hr.2.2.2)
  have CW1 := Lib.hid (fun W g cl (hX : Bys W (some ⟨g, 0, none⟩) (N.data.length + 2) (N.data ++ [91, 92])) (hB : InBytes W A2 N.data.length c2 N.data) (hc : N.data.length + 2 ≤ cl) (hsm : N.data.length ≤ 40000) => whole_any g N.data.length cl A2 c2 N.data W hX hB.1 hc (by omega))
  have CW2 := Lib.hid (fun W g cl (hX : Bys W (some ⟨g, 0, none⟩) (n3 + 2) (reply ++ [91, 92])) (hB : InBytes W A3 n3 c3 reply) (hc : n3 + 2 ≤ cl) (hsm : n3 ≤ 1000) => whole_any g n3 cl A3 c3 reply W hX hB.1 hc (by omega))
  have CSF := Lib.hid (fun (e0 : Nat) (Aa Ab : Option Addr) (m ca cb : Nat) (S : Nat → Kp) W (h1 : FV W Aa m ca S) (h2 : FV W Ab m cb S) => same_fence e0 Aa Ab m ca cb S W h1 h2)
  have HKS := Lib.hid (fun h hd => keep_small (ep := ep) (n := n) (T := T) (N := N) (code := code) (reply := reply) h hd)
  have HDL : Hid (N.data.length = N.data.length) := Lib.hid rfl
  generalize hSM : Small n T N = SM at *
  have HSM : Hid (SM → n ≤ 300 ∧ N.data.length ≤ 40000 ∧ ∀ i, i < n → (T i).a.length ≤ 40000 ∧ (T i).r.length ≤ 40000) := Lib.hid (fun h => by rw [← hSM] at h; exact h)
  clear hSM
  unfold ManyPost at CM
  unfold LentOwn at CL1 CL2
  unfold FencePost at CK CRK
  generalize keepE ep n T N code reply = ke at *
  generalize keepF ep n T N code reply = kf at *
  obtain ⟨kf1, kf2, kf3⟩ := kf
  clear hF hN hs hR
  obtain ⟨kd, e, ol, ls, tk, od, st, un, cd, ky, da⟩ := N
  dsimp only at *
  generalize hky : ky.length = n1 at *
  clear hky HDL
  generalize hda : da.length = n2 at *
  have HDA := Lib.hid hda
  clear hda
  have t1 : ((ke : Int) != (ke : Int)) = false := by simp
  go_enter Try.func4, Try.ntmps4
  go_wp2_with fail
  with_reducible refine (CM.out _ HF.out).mono ?_
  rintro x w1 ⟨bm, rfl, hsm, hb⟩
  have HSMb := Lib.hid hsm
  clear hsm
  have LF_1 := Lib.hid ((Lies.below LF.out hb LF.out.lt))
  have LN_1 := Lib.hid ((Lies.below LN.out hb LN.out.lt))
  have BB_1 := Lib.hid (BB.out.trans (hb.mono BB.out.size))
  have HF_1 := Lib.hid ((HF.out.below hb))
  have HN_1 := Lib.hid ((HN.out.below hb))
  have HD_1 := Lib.hid ((HD.out.below hb))
  have HR_1 := Lib.hid ((HR.out.below hb))
  clear hb
  obtain ⟨c0_0, c0_1⟩ := LF_1.out.cells2
  obtain ⟨f0_0, f0_1⟩ := LF_1.out.free2
  obtain ⟨c1_0, c1_1, c1_2, c1_3, c1_4, c1_5, c1_6, c1_7, c1_8, c1_9, c1_10⟩ := LN_1.out.cells11
  obtain ⟨f1_0, f1_1, f1_2, f1_3, f1_4, f1_5, f1_6, f1_7, f1_8, f1_9, f1_10⟩ := LN_1.out.free11
  cases bm
  · have HS0 := Lib.hid (HSMb.out rfl)
    have HS1 := Lib.hid (HSM.out HS0.out)
    clear HSMb HSM CM
    by_cases h1000 : 1000 < n3
    · have d1 : decide (1000 < n3) = true := decide_eq_true h1000
      have d2 : decide ((1000 : Int) < (n3 : Int)) = true := by rw [decide_eq_true_iff]; omega
      go_wp2_with fail
      with_reducible refine (CKN.out _).mono ?_
      rintro x w2 ⟨rfl, hb⟩
      have BBk := Lib.hid (BB_1.out.trans (hb.mono BB_1.out.size))
      clear hb
      go_wp2
      go_ret
      exact ⟨rfl, BBk.out⟩
    · have d1 : decide (1000 < n3) = false := decide_eq_false h1000
      have d2 : decide ((1000 : Int) < (n3 : Int)) = false := by rw [decide_eq_false_iff_not]; omega
      have H1000 := Lib.hid (Nat.le_of_not_lt h1000)
      clear h1000
      go_wp2_with fail
      with_reducible refine (CC.out _ HF_1.out HS0.out).mono ?_
      rintro x w2 ⟨vx, Yx, rfl, hnf, hyk, hb⟩
      obtain ⟨Ax, cx, rfl, hfx⟩ := hnf.fv hyk
      have HX := Lib.hid hfx
      clear hnf hyk hfx d1 d2
      have LF_2 := Lib.hid ((Lies.below LF_1.out hb LF_1.out.lt).alloc (.cells #[.int .u32 (ep : Int), .slice Ax n cx] 25))
      have LN_2 := Lib.hid ((Lies.below LN_1.out hb LN_1.out.lt).alloc (.cells #[.int .u32 (ep : Int), .slice Ax n cx] 25))
      have BB_2 := Lib.hid ((BB_1.out.trans (hb.mono BB_1.out.size)).alloc (BB_1.out.trans (hb.mono BB_1.out.size)).size (.cells #[.int .u32 (ep : Int), .slice Ax n cx] 25))
      have HF_2 := Lib.hid ((HF_1.out.below hb).below (below1 _ (.cells #[.int .u32 (ep : Int), .slice Ax n cx] 25)))
      have HN_2 := Lib.hid ((HN_1.out.below hb).below (below1 _ (.cells #[.int .u32 (ep : Int), .slice Ax n cx] 25)))
      have HD_2 := Lib.hid ((HD_1.out.below hb).below (below1 _ (.cells #[.int .u32 (ep : Int), .slice Ax n cx] 25)))
      have HR_2 := Lib.hid ((HR_1.out.below hb).below (below1 _ (.cells #[.int .u32 (ep : Int), .slice Ax n cx] 25)))
      have LN2_2 := Lib.hid (Lies.made w2 25 #[.int .u32 (ep : Int), .slice Ax n cx])
      clear hb
      clear c0_0 c0_1 f0_0 f0_1 c1_0 c1_1 c1_2 c1_3 c1_4 c1_5 c1_6 c1_7 c1_8 c1_9 c1_10 f1_0 f1_1 f1_2 f1_3 f1_4 f1_5 f1_6 f1_7 f1_8 f1_9 f1_10
      obtain ⟨c0_0, c0_1⟩ := LF_2.out.cells2
      obtain ⟨f0_0, f0_1⟩ := LF_2.out.free2
      obtain ⟨c1_0, c1_1, c1_2, c1_3, c1_4, c1_5, c1_6, c1_7, c1_8, c1_9, c1_10⟩ := LN_2.out.cells11
      obtain ⟨f1_0, f1_1, f1_2, f1_3, f1_4, f1_5, f1_6, f1_7, f1_8, f1_9, f1_10⟩ := LN_2.out.free11
      obtain ⟨c2_0, c2_1⟩ := LN2_2.out.cells2
      obtain ⟨f2_0, f2_1⟩ := LN2_2.out.free2
      have HX2 := Lib.hid (HX.out.below (below1 w2 (.cells #[.int .u32 (ep : Int), .slice Ax n cx] 25)))
      have BX2 := Lib.hid (Below.refl (w2.alloc (.cells #[.int .u32 (ep : Int), .slice Ax n cx] 25)).heap.size (w2.alloc (.cells #[.int .u32 (ep : Int), .slice Ax n cx] 25)))
      have hW3 : (w2.alloc (.cells #[.int .u32 (ep : Int), .slice Ax n cx] 25)).heap.size = w2.heap.size + 1 := by simp
      have HW3 := Lib.hid hW3
      clear hW3
      have LF_3 := Lib.hid (LF_2.out.alloc (.cells #[.int .i64 kd, .int .u32 (e : Nat), .int .u32 (ol : Nat), .int .u64 (ls : Nat), .int .u64 (tk : Nat), .int .u32 (od : Nat), .int .i64 st, .bool un, .int .i64 cd, .slice A1 n1 c1, .slice A2 n2 c2] 29))
      have LN_3 := Lib.hid (LN_2.out.alloc (.cells #[.int .i64 kd, .int .u32 (e : Nat), .int .u32 (ol : Nat), .int .u64 (ls : Nat), .int .u64 (tk : Nat), .int .u32 (od : Nat), .int .i64 st, .bool un, .int .i64 cd, .slice A1 n1 c1, .slice A2 n2 c2] 29))
      have LX_3 := Lib.hid (LN2_2.out.alloc (.cells #[.int .i64 kd, .int .u32 (e : Nat), .int .u32 (ol : Nat), .int .u64 (ls : Nat), .int .u64 (tk : Nat), .int .u32 (od : Nat), .int .i64 st, .bool un, .int .i64 cd, .slice A1 n1 c1, .slice A2 n2 c2] 29))
      have LM_3 : Hid (Lies ((w2.alloc (.cells #[.int .u32 (ep : Int), .slice Ax n cx] 25)).alloc (.cells #[.int .i64 kd, .int .u32 (e : Nat), .int .u32 (ol : Nat), .int .u64 (ls : Nat), .int .u64 (tk : Nat), .int .u32 (od : Nat), .int .i64 st, .bool un, .int .i64 cd, .slice A1 n1 c1, .slice A2 n2 c2] 29)) (w2.heap.size + 1) 29 #[.int .i64 kd, .int .u32 (e : Nat), .int .u32 (ol : Nat), .int .u64 (ls : Nat), .int .u64 (tk : Nat), .int .u32 (od : Nat), .int .i64 st, .bool un, .int .i64 cd, .slice A1 n1 c1, .slice A2 n2 c2]) := Lib.hid (by have h := Lies.made (w2.alloc (.cells #[.int .u32 (ep : Int), .slice Ax n cx] 25)) 29 #[.int .i64 kd, .int .u32 (e : Nat), .int .u32 (ol : Nat), .int .u64 (ls : Nat), .int .u64 (tk : Nat), .int .u32 (od : Nat), .int .i64 st, .bool un, .int .i64 cd, .slice A1 n1 c1, .slice A2 n2 c2]; rw [HW3.out] at h; exact h)
      have BX_3 := Lib.hid (BX2.out.alloc (Nat.le_refl _) (.cells #[.int .i64 kd, .int .u32 (e : Nat), .int .u32 (ol : Nat), .int .u64 (ls : Nat), .int .u64 (tk : Nat), .int .u32 (od : Nat), .int .i64 st, .bool un, .int .i64 cd, .slice A1 n1 c1, .slice A2 n2 c2] 29))
      have BB_3 := Lib.hid (BB_2.out.alloc BB_2.out.size (.cells #[.int .i64 kd, .int .u32 (e : Nat), .int .u32 (ol : Nat), .int .u64 (ls : Nat), .int .u64 (tk : Nat), .int .u32 (od : Nat), .int .i64 st, .bool un, .int .i64 cd, .slice A1 n1 c1, .slice A2 n2 c2] 29))
      have HD_3 := Lib.hid (HD_2.out.below (below1 _ (.cells #[.int .i64 kd, .int .u32 (e : Nat), .int .u32 (ol : Nat), .int .u64 (ls : Nat), .int .u64 (tk : Nat), .int .u32 (od : Nat), .int .i64 st, .bool un, .int .i64 cd, .slice A1 n1 c1, .slice A2 n2 c2] 29)))
      have HR_3 := Lib.hid (HR_2.out.below (below1 _ (.cells #[.int .i64 kd, .int .u32 (e : Nat), .int .u32 (ol : Nat), .int .u64 (ls : Nat), .int .u64 (tk : Nat), .int .u32 (od : Nat), .int .i64 st, .bool un, .int .i64 cd, .slice A1 n1 c1, .slice A2 n2 c2] 29)))
      obtain ⟨y0, y1, y2, y3, y4, y5, y6, y7, y8, y9, y10⟩ := LN_3.out.cells11
      go_wp2_with fail
      with_reducible refine (CL1.out _ HD_3.out HS1.out.2.1).mono ?_
      rintro x w3 ⟨g, cl, rfl, hc1, hc2, hgs, hO, hb⟩
      clear y0 y1 y2 y3 y4 y5 y6 y7 y8 y9 y10
      clear c0_0 c0_1 f0_0 f0_1 c1_0 c1_1 c1_2 c1_3 c1_4 c1_5 c1_6 c1_7 c1_8 c1_9 c1_10 f1_0 f1_1 f1_2 f1_3 f1_4 f1_5 f1_6 f1_7 f1_8 f1_9 f1_10 c2_0 c2_1 f2_0 f2_1
      have HC := Lib.hid (And.intro hc1 hc2)
      have HGS := Lib.hid hgs
      have HOm := Lib.hid hO
      have LF_4 := Lib.hid (Lies.below LF_3.out hb LF_3.out.lt)
      have LN_4 := Lib.hid (Lies.below LN_3.out hb LN_3.out.lt)
      have LX_4 := Lib.hid (Lies.below LX_3.out hb LX_3.out.lt)
      have LM_4 := Lib.hid (Lies.below LM_3.out hb LM_3.out.lt)
      have BX_4 := Lib.hid (BX_3.out.trans (hb.mono BX_3.out.size))
      have BB_4 := Lib.hid (BB_3.out.trans (hb.mono BB_3.out.size))
      clear hc1 hc2 hgs hO hb
      obtain ⟨m0, m1, m2, m3, m4, m5, m6, m7, m8, m9, m10⟩ := LM_4.out.cells11
      obtain ⟨n0, n1f, n2f, n3f, n4, n5, n6, n7, n8, n9, n10⟩ := LM_4.out.free11
      have LMz := Lib.hid (LM_4.out.put 10 (.slice (some ⟨g, 0, none⟩) n2 cl))
      have LFz := Lib.hid (LF_4.out.other (a := ⟨(w2.heap.size + 1), 10, none⟩) (Nat.ne_of_lt (Nat.lt_of_lt_of_le LF_2.out.lt (Nat.le_of_eq HW3.out))) (.slice (some ⟨g, 0, none⟩) n2 cl))
      have LNz := Lib.hid (LN_4.out.other (a := ⟨(w2.heap.size + 1), 10, none⟩) (Nat.ne_of_lt (Nat.lt_of_lt_of_le LN_2.out.lt (Nat.le_of_eq HW3.out))) (.slice (some ⟨g, 0, none⟩) n2 cl))
      have LXz := Lib.hid (LX_4.out.other (a := ⟨(w2.heap.size + 1), 10, none⟩) (Nat.ne_of_lt (Nat.lt_of_lt_of_le LN2_2.out.lt (Nat.le_of_eq HW3.out))) (.slice (some ⟨g, 0, none⟩) n2 cl))
      have BXz := Lib.hid (BX_4.out.setCell (p := ⟨(w2.heap.size + 1), 10, none⟩) (Nat.le_of_eq HW3.out) (.slice (some ⟨g, 0, none⟩) n2 cl))
      have BBz := Lib.hid (BB_4.out.setCell (p := ⟨(w2.heap.size + 1), 10, none⟩) (Nat.le_trans BB_2.out.size (Nat.le_of_eq HW3.out)) (.slice (some ⟨g, 0, none⟩) n2 cl))
      have HOz := Lib.hid (HOm.out.lies_put LM_4.out (by decide) 10 (.slice (some ⟨g, 0, none⟩) n2 cl))
      have CL2z := Lib.hid (CL2.out (w3.setCell ⟨(w2.heap.size + 1), 10, none⟩ (.slice (some ⟨g, 0, none⟩) n2 cl)) (HR_2.out.below BXz.out) H1000.out)
      go_wp2_with fail
      with_reducible refine CL2z.out.mono ?_
      clear m0 m1 m2 m3 m4 m5 m6 m7 m8 m9 m10 n0 n1f n2f n3f n4 n5 n6 n7 n8 n9 n10
      obtain ⟨z, hz⟩ : ∃ z, z = w3.setCell ⟨(w2.heap.size + 1), 10, none⟩ (.slice (some ⟨g, 0, none⟩) n2 cl) := ⟨_, rfl⟩
      rw [← hz]
      rw [← hz] at LMz LFz LNz LXz BXz BBz HOz
      clear CL2z hz
      have LMy : Hid (Lies z (w2.heap.size + 1) 29 #[.int .i64 kd, .int .u32 (e : Nat), .int .u32 (ol : Nat), .int .u64 (ls : Nat), .int .u64 (tk : Nat), .int .u32 (od : Nat), .int .i64 st, .bool un, .int .i64 cd, .slice A1 n1 c1, .slice (some ⟨g, 0, none⟩) n2 cl]) := LMz
      rintro x w4 ⟨g2, cr, rfl, hc1, hc2, hgs, hO, hb⟩
      have BZs := Lib.hid BXz.out.size
      have HOz1 := Lib.hid (HOz.out.lt g rfl)
      have HC2 := Lib.hid (And.intro hc1 hc2)
      have HGS2 := Lib.hid hgs
      have HOr_4 := Lib.hid hO
      have HOm_4 := Lib.hid (HOz.out.belowOwn hb)
      have LF_w := Lib.hid (Lies.below LFz.out hb LFz.out.lt)
      have LN_w := Lib.hid (Lies.below LNz.out hb LNz.out.lt)
      have LX_w := Lib.hid (Lies.below LXz.out hb LXz.out.lt)
      have LM_w := Lib.hid (Lies.below LMy.out hb LMy.out.lt)
      have BX_w := Lib.hid (BXz.out.trans (hb.mono BXz.out.size))
      have BB_w := Lib.hid (BBz.out.trans (hb.mono BBz.out.size))
      clear hc1 hc2 hgs hO hb LF_3 LN_3 LX_3 LM_3 BX_3 BB_3 HD_3 HR_3 LF_4 LN_4 LX_4 LM_4 BX_4 BB_4 LMz LFz LNz LXz BXz BBz HOz LMy CL1 CL2
      have HX_w := Lib.hid (HX2.out.below BX_w.out)
      have HF_w := Lib.hid (HF_2.out.below BX_w.out)
      have HN_w := Lib.hid (HN_2.out.below BX_w.out)
      have HD_w := Lib.hid (HD_2.out.below BX_w.out)
      have HR_w := Lib.hid (HR_2.out.below BX_w.out)
      have BM := Lib.hid (HOm_4.out.bys.1)
      have BR := Lib.hid (HOr_4.out.bys.1)
      have HRL := Lib.hid HR_w.out.1.1
      have hg1 : g < w4.heap.size := HOm_4.out.lt g rfl
      have hg2 : g2 < w4.heap.size := HOr_4.out.lt g2 rfl
      have HG := Lib.hid (And.intro hg1 hg2)
      clear hg1 hg2
      obtain ⟨c0_0, c0_1⟩ := LF_w.out.cells2
      obtain ⟨f0_0, f0_1⟩ := LF_w.out.free2
      obtain ⟨c1_0, c1_1, c1_2, c1_3, c1_4, c1_5, c1_6, c1_7, c1_8, c1_9, c1_10⟩ := LN_w.out.cells11
      obtain ⟨f1_0, f1_1, f1_2, f1_3, f1_4, f1_5, f1_6, f1_7, f1_8, f1_9, f1_10⟩ := LN_w.out.free11
      obtain ⟨c2_0, c2_1⟩ := LX_w.out.cells2
      obtain ⟨f2_0, f2_1⟩ := LX_w.out.free2
      obtain ⟨c3_0, c3_1, c3_2, c3_3, c3_4, c3_5, c3_6, c3_7, c3_8, c3_9, c3_10⟩ := LM_w.out.cells11
      obtain ⟨f3_0, f3_1, f3_2, f3_3, f3_4, f3_5, f3_6, f3_7, f3_8, f3_9, f3_10⟩ := LM_w.out.free11
      go_wp2_with fail
      with_reducible refine (CK.out _ Ax cx g cl g2 cr HX_w.out HN_w.out (BM.out.part HDA.out) (Nat.le_of_add_right_le HC.out.1) HC.out.2 (BR.out.part HRL.out) (Nat.le_of_add_right_le HC2.out.1) HC2.out.2).mono ?_
      rintro x w5 ⟨va, Ya, rfl, hnf, hyk, hb⟩
      obtain ⟨Aa, ca, rfl, hfa⟩ := hnf.fv hyk
      have S4 := Lib.hid hb.size
      have NFa := Lib.hid hnf
      have HYa := Lib.hid hyk
      clear hnf hyk hfa
      have LF_5 := Lib.hid ((Lies.below LF_w.out hb LF_w.out.lt).alloc (.cells #[.int .u32 (kf1 : Int), .slice Aa kf2 ca] 25))
      have LN_5 := Lib.hid ((Lies.below LN_w.out hb LN_w.out.lt).alloc (.cells #[.int .u32 (kf1 : Int), .slice Aa kf2 ca] 25))
      have LX_5 := Lib.hid ((Lies.below LX_w.out hb LX_w.out.lt).alloc (.cells #[.int .u32 (kf1 : Int), .slice Aa kf2 ca] 25))
      have LM_5 := Lib.hid ((Lies.below LM_w.out hb LM_w.out.lt).alloc (.cells #[.int .u32 (kf1 : Int), .slice Aa kf2 ca] 25))
      have BB_5 := Lib.hid ((BB_w.out.trans (hb.mono BB_w.out.size)).alloc (BB_w.out.trans (hb.mono BB_w.out.size)).size (.cells #[.int .u32 (kf1 : Int), .slice Aa kf2 ca] 25))
      have BX_5 := Lib.hid ((BX_w.out.trans (hb.mono BX_w.out.size)).alloc (BX_w.out.trans (hb.mono BX_w.out.size)).size (.cells #[.int .u32 (kf1 : Int), .slice Aa kf2 ca] 25))
      have HX_5 := Lib.hid ((HX_w.out.below hb).below (below1 _ (.cells #[.int .u32 (kf1 : Int), .slice Aa kf2 ca] 25)))
      have HF_5 := Lib.hid ((HF_w.out.below hb).below (below1 _ (.cells #[.int .u32 (kf1 : Int), .slice Aa kf2 ca] 25)))
      have HN_5 := Lib.hid ((HN_w.out.below hb).below (below1 _ (.cells #[.int .u32 (kf1 : Int), .slice Aa kf2 ca] 25)))
      have HD_5 := Lib.hid ((HD_w.out.below hb).below (below1 _ (.cells #[.int .u32 (kf1 : Int), .slice Aa kf2 ca] 25)))
      have HR_5 := Lib.hid ((HR_w.out.below hb).below (below1 _ (.cells #[.int .u32 (kf1 : Int), .slice Aa kf2 ca] 25)))
      have HOm_5 := Lib.hid ((HOm_4.out.belowOwn hb).belowOwn (below1 _ (.cells #[.int .u32 (kf1 : Int), .slice Aa kf2 ca] 25)))
      have HOr_5 := Lib.hid ((HOr_4.out.belowOwn hb).belowOwn (below1 _ (.cells #[.int .u32 (kf1 : Int), .slice Aa kf2 ca] 25)))
      have LN5_5 := Lib.hid (Lies.made w5 25 #[.int .u32 (kf1 : Int), .slice Aa kf2 ca])
      clear hb
      clear c0_0 c0_1 f0_0 f0_1 c1_0 c1_1 c1_2 c1_3 c1_4 c1_5 c1_6 c1_7 c1_8 c1_9 c1_10 f1_0 f1_1 f1_2 f1_3 f1_4 f1_5 f1_6 f1_7 f1_8 f1_9 f1_10 c2_0 c2_1 f2_0 f2_1 c3_0 c3_1 c3_2 c3_3 c3_4 c3_5 c3_6 c3_7 c3_8 c3_9 c3_10 f3_0 f3_1 f3_2 f3_3 f3_4 f3_5 f3_6 f3_7 f3_8 f3_9 f3_10
      obtain ⟨c0_0, c0_1⟩ := LF_5.out.cells2
      obtain ⟨f0_0, f0_1⟩ := LF_5.out.free2
      obtain ⟨c1_0, c1_1, c1_2, c1_3, c1_4, c1_5, c1_6, c1_7, c1_8, c1_9, c1_10⟩ := LN_5.out.cells11
      obtain ⟨f1_0, f1_1, f1_2, f1_3, f1_4, f1_5, f1_6, f1_7, f1_8, f1_9, f1_10⟩ := LN_5.out.free11
      obtain ⟨c2_0, c2_1⟩ := LX_5.out.cells2
      obtain ⟨f2_0, f2_1⟩ := LX_5.out.free2
      obtain ⟨c3_0, c3_1, c3_2, c3_3, c3_4, c3_5, c3_6, c3_7, c3_8, c3_9, c3_10⟩ := LM_5.out.cells11
      obtain ⟨f3_0, f3_1, f3_2, f3_3, f3_4, f3_5, f3_6, f3_7, f3_8, f3_9, f3_10⟩ := LM_5.out.free11
      obtain ⟨c4_0, c4_1⟩ := LN5_5.out.cells2
      obtain ⟨f4_0, f4_1⟩ := LN5_5.out.free2
      have NFa5 := Lib.hid (NFa.out.below (below1 w5 (.cells #[.int .u32 (kf1 : Int), .slice Aa kf2 ca] 25)))
      go_wp2_with fail
      with_reducible refine (CRK.out _ HF_5.out HN_5.out HR_5.out).mono ?_
      rintro x w6 ⟨vb, Yb, rfl, hnf, hyk, hb⟩
      obtain ⟨Ab, cb, rfl, hfb⟩ := hnf.fv hyk
      have NFb := Lib.hid hnf
      have HYb := Lib.hid hyk
      clear hnf hyk hfb
      have LF_6 := Lib.hid ((Lies.below LF_5.out hb LF_5.out.lt).alloc (.cells #[.int .u32 (kf1 : Int), .slice Ab kf2 cb] 25))
      have LN_6 := Lib.hid ((Lies.below LN_5.out hb LN_5.out.lt).alloc (.cells #[.int .u32 (kf1 : Int), .slice Ab kf2 cb] 25))
      have LX_6 := Lib.hid ((Lies.below LX_5.out hb LX_5.out.lt).alloc (.cells #[.int .u32 (kf1 : Int), .slice Ab kf2 cb] 25))
      have LM_6 := Lib.hid ((Lies.below LM_5.out hb LM_5.out.lt).alloc (.cells #[.int .u32 (kf1 : Int), .slice Ab kf2 cb] 25))
      have LN5_6 := Lib.hid ((Lies.below LN5_5.out hb LN5_5.out.lt).alloc (.cells #[.int .u32 (kf1 : Int), .slice Ab kf2 cb] 25))
      have BB_6 := Lib.hid ((BB_5.out.trans (hb.mono BB_5.out.size)).alloc (BB_5.out.trans (hb.mono BB_5.out.size)).size (.cells #[.int .u32 (kf1 : Int), .slice Ab kf2 cb] 25))
      have BX_6 := Lib.hid ((BX_5.out.trans (hb.mono BX_5.out.size)).alloc (BX_5.out.trans (hb.mono BX_5.out.size)).size (.cells #[.int .u32 (kf1 : Int), .slice Ab kf2 cb] 25))
      have HX_6 := Lib.hid ((HX_5.out.below hb).below (below1 _ (.cells #[.int .u32 (kf1 : Int), .slice Ab kf2 cb] 25)))
      have HF_6 := Lib.hid ((HF_5.out.below hb).below (below1 _ (.cells #[.int .u32 (kf1 : Int), .slice Ab kf2 cb] 25)))
      have HN_6 := Lib.hid ((HN_5.out.below hb).below (below1 _ (.cells #[.int .u32 (kf1 : Int), .slice Ab kf2 cb] 25)))
      have HD_6 := Lib.hid ((HD_5.out.below hb).below (below1 _ (.cells #[.int .u32 (kf1 : Int), .slice Ab kf2 cb] 25)))
      have HR_6 := Lib.hid ((HR_5.out.below hb).below (below1 _ (.cells #[.int .u32 (kf1 : Int), .slice Ab kf2 cb] 25)))
      have HOm_6 := Lib.hid ((HOm_5.out.belowOwn hb).belowOwn (below1 _ (.cells #[.int .u32 (kf1 : Int), .slice Ab kf2 cb] 25)))
      have HOr_6 := Lib.hid ((HOr_5.out.belowOwn hb).belowOwn (below1 _ (.cells #[.int .u32 (kf1 : Int), .slice Ab kf2 cb] 25)))
      have NFa5_6 := Lib.hid ((NFa5.out.below hb).below (below1 _ (.cells #[.int .u32 (kf1 : Int), .slice Ab kf2 cb] 25)))
      have LN6_6 := Lib.hid (Lies.made w6 25 #[.int .u32 (kf1 : Int), .slice Ab kf2 cb])
      clear hb
      clear c0_0 c0_1 f0_0 f0_1 c1_0 c1_1 c1_2 c1_3 c1_4 c1_5 c1_6 c1_7 c1_8 c1_9 c1_10 f1_0 f1_1 f1_2 f1_3 f1_4 f1_5 f1_6 f1_7 f1_8 f1_9 f1_10 c2_0 c2_1 f2_0 f2_1 c3_0 c3_1 c3_2 c3_3 c3_4 c3_5 c3_6 c3_7 c3_8 c3_9 c3_10 f3_0 f3_1 f3_2 f3_3 f3_4 f3_5 f3_6 f3_7 f3_8 f3_9 f3_10 c4_0 c4_1 f4_0 f4_1
      obtain ⟨c0_0, c0_1⟩ := LF_6.out.cells2
      obtain ⟨f0_0, f0_1⟩ := LF_6.out.free2
      obtain ⟨c1_0, c1_1, c1_2, c1_3, c1_4, c1_5, c1_6, c1_7, c1_8, c1_9, c1_10⟩ := LN_6.out.cells11
      obtain ⟨f1_0, f1_1, f1_2, f1_3, f1_4, f1_5, f1_6, f1_7, f1_8, f1_9, f1_10⟩ := LN_6.out.free11
      obtain ⟨c2_0, c2_1⟩ := LX_6.out.cells2
      obtain ⟨f2_0, f2_1⟩ := LX_6.out.free2
      obtain ⟨c3_0, c3_1, c3_2, c3_3, c3_4, c3_5, c3_6, c3_7, c3_8, c3_9, c3_10⟩ := LM_6.out.cells11
      obtain ⟨f3_0, f3_1, f3_2, f3_3, f3_4, f3_5, f3_6, f3_7, f3_8, f3_9, f3_10⟩ := LM_6.out.free11
      obtain ⟨c4_0, c4_1⟩ := LN5_6.out.cells2
      obtain ⟨f4_0, f4_1⟩ := LN5_6.out.free2
      obtain ⟨c5_0, c5_1⟩ := LN6_6.out.cells2
      obtain ⟨f5_0, f5_1⟩ := LN6_6.out.free2
      have NFb6 := Lib.hid (NFb.out.below (below1 w6 (.cells #[.int .u32 (kf1 : Int), .slice Ab kf2 cb] 25)))
      have S45 : Hid (w4.heap.size ≤ (w5.alloc (.cells #[.int .u32 (kf1 : Int), .slice Aa kf2 ca] 25)).heap.size) := Lib.hid (Nat.le_trans S4.out (by simp))
      go_wp2_with fail
      with_reducible refine (CW1.out _ g cl HOm_6.out.bys.1 HD_6.out HC.out.1 HS1.out.2.1).mono ?_
      rintro x w7 ⟨rfl, hb⟩
      have LF_7 := Lib.hid ((Lies.below LF_6.out hb LF_6.out.lt))
      have LN_7 := Lib.hid ((Lies.below LN_6.out hb LN_6.out.lt))
      have LX_7 := Lib.hid ((Lies.below LX_6.out hb LX_6.out.lt))
      have LM_7 := Lib.hid ((Lies.below LM_6.out hb LM_6.out.lt))
      have LN5_7 := Lib.hid ((Lies.below LN5_6.out hb LN5_6.out.lt))
      have LN6_7 := Lib.hid ((Lies.below LN6_6.out hb LN6_6.out.lt))
      have BB_7 := Lib.hid (BB_6.out.trans (hb.mono BB_6.out.size))
      have BX_7 := Lib.hid (BX_6.out.trans (hb.mono BX_6.out.size))
      have HX_7 := Lib.hid ((HX_6.out.below hb))
      have HF_7 := Lib.hid ((HF_6.out.below hb))
      have HN_7 := Lib.hid ((HN_6.out.below hb))
      have HD_7 := Lib.hid ((HD_6.out.below hb))
      have HR_7 := Lib.hid ((HR_6.out.below hb))
      have HOm_7 := Lib.hid ((HOm_6.out.belowOwn hb))
      have HOr_7 := Lib.hid ((HOr_6.out.belowOwn hb))
      have NFa5_7 := Lib.hid ((NFa5_6.out.below hb))
      have NFb6_7 := Lib.hid ((NFb6.out.below hb))
      clear hb
      clear c0_0 c0_1 f0_0 f0_1 c1_0 c1_1 c1_2 c1_3 c1_4 c1_5 c1_6 c1_7 c1_8 c1_9 c1_10 f1_0 f1_1 f1_2 f1_3 f1_4 f1_5 f1_6 f1_7 f1_8 f1_9 f1_10 c2_0 c2_1 f2_0 f2_1 c3_0 c3_1 c3_2 c3_3 c3_4 c3_5 c3_6 c3_7 c3_8 c3_9 c3_10 f3_0 f3_1 f3_2 f3_3 f3_4 f3_5 f3_6 f3_7 f3_8 f3_9 f3_10 c4_0 c4_1 f4_0 f4_1 c5_0 c5_1 f5_0 f5_1
      obtain ⟨c0_0, c0_1⟩ := LF_7.out.cells2
      obtain ⟨f0_0, f0_1⟩ := LF_7.out.free2
      obtain ⟨c1_0, c1_1, c1_2, c1_3, c1_4, c1_5, c1_6, c1_7, c1_8, c1_9, c1_10⟩ := LN_7.out.cells11
      obtain ⟨f1_0, f1_1, f1_2, f1_3, f1_4, f1_5, f1_6, f1_7, f1_8, f1_9, f1_10⟩ := LN_7.out.free11
      obtain ⟨c2_0, c2_1⟩ := LX_7.out.cells2
      obtain ⟨f2_0, f2_1⟩ := LX_7.out.free2
      obtain ⟨c3_0, c3_1, c3_2, c3_3, c3_4, c3_5, c3_6, c3_7, c3_8, c3_9, c3_10⟩ := LM_7.out.cells11
      obtain ⟨f3_0, f3_1, f3_2, f3_3, f3_4, f3_5, f3_6, f3_7, f3_8, f3_9, f3_10⟩ := LM_7.out.free11
      obtain ⟨c4_0, c4_1⟩ := LN5_7.out.cells2
      obtain ⟨f4_0, f4_1⟩ := LN5_7.out.free2
      obtain ⟨c5_0, c5_1⟩ := LN6_7.out.cells2
      obtain ⟨f5_0, f5_1⟩ := LN6_7.out.free2
      go_wp2_with fail
      with_reducible refine (CW2.out _ g2 cr HOr_7.out.bys.1 HR_7.out HC2.out.1 H1000.out).mono ?_
      rintro x w8 ⟨rfl, hb⟩
      have LF_8 := Lib.hid ((Lies.below LF_7.out hb LF_7.out.lt))
      have LN_8 := Lib.hid ((Lies.below LN_7.out hb LN_7.out.lt))
      have LX_8 := Lib.hid ((Lies.below LX_7.out hb LX_7.out.lt))
      have LM_8 := Lib.hid ((Lies.below LM_7.out hb LM_7.out.lt))
      have LN5_8 := Lib.hid ((Lies.below LN5_7.out hb LN5_7.out.lt))
      have LN6_8 := Lib.hid ((Lies.below LN6_7.out hb LN6_7.out.lt))
      have BB_8 := Lib.hid (BB_7.out.trans (hb.mono BB_7.out.size))
      have BX_8 := Lib.hid (BX_7.out.trans (hb.mono BX_7.out.size))
      have HX_8 := Lib.hid ((HX_7.out.below hb))
      have HF_8 := Lib.hid ((HF_7.out.below hb))
      have HN_8 := Lib.hid ((HN_7.out.below hb))
      have HD_8 := Lib.hid ((HD_7.out.below hb))
      have HR_8 := Lib.hid ((HR_7.out.below hb))
      have HOm_8 := Lib.hid ((HOm_7.out.belowOwn hb))
      have HOr_8 := Lib.hid ((HOr_7.out.belowOwn hb))
      have NFa5_8 := Lib.hid ((NFa5_7.out.below hb))
      have NFb6_8 := Lib.hid ((NFb6_7.out.below hb))
      clear hb
      clear c0_0 c0_1 f0_0 f0_1 c1_0 c1_1 c1_2 c1_3 c1_4 c1_5 c1_6 c1_7 c1_8 c1_9 c1_10 f1_0 f1_1 f1_2 f1_3 f1_4 f1_5 f1_6 f1_7 f1_8 f1_9 f1_10 c2_0 c2_1 f2_0 f2_1 c3_0 c3_1 c3_2 c3_3 c3_4 c3_5 c3_6 c3_7 c3_8 c3_9 c3_10 f3_0 f3_1 f3_2 f3_3 f3_4 f3_5 f3_6 f3_7 f3_8 f3_9 f3_10 c4_0 c4_1 f4_0 f4_1 c5_0 c5_1 f5_0 f5_1
      obtain ⟨c0_0, c0_1⟩ := LF_8.out.cells2
      obtain ⟨f0_0, f0_1⟩ := LF_8.out.free2
      obtain ⟨c1_0, c1_1, c1_2, c1_3, c1_4, c1_5, c1_6, c1_7, c1_8, c1_9, c1_10⟩ := LN_8.out.cells11
      obtain ⟨f1_0, f1_1, f1_2, f1_3, f1_4, f1_5, f1_6, f1_7, f1_8, f1_9, f1_10⟩ := LN_8.out.free11
      obtain ⟨c2_0, c2_1⟩ := LX_8.out.cells2
      obtain ⟨f2_0, f2_1⟩ := LX_8.out.free2
      obtain ⟨c3_0, c3_1, c3_2, c3_3, c3_4, c3_5, c3_6, c3_7, c3_8, c3_9, c3_10⟩ := LM_8.out.cells11
      obtain ⟨f3_0, f3_1, f3_2, f3_3, f3_4, f3_5, f3_6, f3_7, f3_8, f3_9, f3_10⟩ := LM_8.out.free11
      obtain ⟨c4_0, c4_1⟩ := LN5_8.out.cells2
      obtain ⟨f4_0, f4_1⟩ := LN5_8.out.free2
      obtain ⟨c5_0, c5_1⟩ := LN6_8.out.cells2
      obtain ⟨f5_0, f5_1⟩ := LN6_8.out.free2
      clear c0_0 c0_1 f0_0 f0_1 c1_0 c1_1 c1_2 c1_3 c1_4 c1_5 c1_6 c1_7 c1_8 c1_9 c1_10 f1_0 f1_1 f1_2 f1_3 f1_4 f1_5 f1_6 f1_7 f1_8 f1_9 f1_10 c2_0 c2_1 f2_0 f2_1 c3_0 c3_1 c3_2 c3_3 c3_4 c3_5 c3_6 c3_7 c3_8 c3_9 c3_10 f3_0 f3_1 f3_2 f3_3 f3_4 f3_5 f3_6 f3_7 f3_8 f3_9 f3_10 c4_0 c4_1 f4_0 f4_1 c5_0 c5_1 f5_0 f5_1
      have CSp1 := Lib.hid (spoil_any g n2 cl _ _ (n2 + 2) w8 HOm_8.out (by omega) (by have := HS1.out.2.1; omega))
      obtain ⟨m0, m1, m2, m3, m4, m5, m6, m7, m8, m9, m10⟩ := LM_8.out.cells11
      go_wp2_with fail
      with_reducible refine CSp1.out.mono ?_
      rintro x v1 ⟨rfl, hg⟩
      have La1 := Lib.hid (Lies.grown5 LN5_8.out (by decide) HOm_8.out hg)
      have Lb1 := Lib.hid (Lies.grown5 LN6_8.out (by decide) HOm_8.out hg)
      have Lx1 := Lib.hid (Lies.grown5 LX_8.out (by decide) HOm_8.out hg)
      have Lf1 := Lib.hid (Lies.grown5 LF_8.out (by decide) HOm_8.out hg)
      have Q1 := Lib.hid (below_grownOne BX_8.out hg BX_8.out.size (Nat.le_trans (below1 (w2.alloc (.cells #[.int .u32 (ep : Int), .slice Ax n cx] 25)) (.cells #[.int .i64 kd, .int .u32 (e : Nat), .int .u32 (ol : Nat), .int .u64 (ls : Nat), .int .u64 (tk : Nat), .int .u32 (od : Nat), .int .i64 st, .bool un, .int .i64 cd, .slice A1 n1 c1, .slice A2 n2 c2] 29)).size HGS.out))
      skip
      have NFa1 := Lib.hid (NFa5_8.out.grownLow hg HG.out.1)
      have NFb1 := Lib.hid (NFb6_8.out.grownLow hg (Nat.lt_of_lt_of_le HG.out.1 S45.out))
      have OR1 := Lib.hid (HOr_8.out.grownLow hg HOz1.out)
      clear hg CSp1 m0 m1 m2 m3 m4 m5 m6 m7 m8 m9 m10
      have CSp2 := Lib.hid (spoil_any g2 n3 cr _ _ (n3 + 2) v1 OR1.out (by omega) (by have := H1000.out; omega))
      go_wp2_with fail
      with_reducible refine CSp2.out.mono ?_
      rintro x v2 ⟨rfl, hg⟩
      have La2 := Lib.hid (Lies.grown5 La1.out (by decide) OR1.out hg)
      have Lb2 := Lib.hid (Lies.grown5 Lb1.out (by decide) OR1.out hg)
      have Lx2 := Lib.hid (Lies.grown5 Lx1.out (by decide) OR1.out hg)
      have Lf2 := Lib.hid (Lies.grown5 Lf1.out (by decide) OR1.out hg)
      have Q2 := Lib.hid (below_grownOne Q1.out hg Q1.out.size (Nat.le_trans BZs.out HGS2.out))
      have NFa2 := Lib.hid (NFa1.out.grownLow hg HG.out.2)
      have NFb2 := Lib.hid (NFb1.out.grownLow hg (Nat.lt_of_lt_of_le HG.out.2 S45.out))
      clear hg CSp2 La1 Lb1 Lx1 Lf1 Q1 NFa1 NFb1 OR1
      have CE1 : Hid (Calls Try.prog 21 #[.agg #[.int .u32 (kf1 : Int), .slice Aa kf2 ca], .agg #[.int .u32 (kf1 : Int), .slice Ab kf2 cb]] v2 fun e w' => e = .returned (.bool true) ∧ Below v2.heap.size v2 w') := Lib.hid (by
        obtain ⟨A5, c5, h5, q5⟩ := NFa2.out.fv HYa.out
        obtain ⟨A6, c6, h6, q6⟩ := NFb2.out.fv HYb.out
        injection h5 with p1 p2 p3
        injection h6 with r1 r2 r3
        subst p1 p3 r1 r3
        exact CSF.out kf1 _ _ kf2 _ _ kf3 v2 q5 q6)
      obtain ⟨l0, l1⟩ := La2.out.cells2
      obtain ⟨k0, k1⟩ := Lb2.out.cells2
      go_wp2_with fail
      with_reducible refine CE1.out.mono ?_
      rintro x v3 ⟨rfl, hb⟩
      have La3 := Lib.hid (Lies.below La2.out hb La2.out.lt)
      have Lx3 := Lib.hid (Lies.below Lx2.out hb Lx2.out.lt)
      have Lf3 := Lib.hid (Lies.below Lf2.out hb Lf2.out.lt)
      have Q3 := Lib.hid (Q2.out.trans (hb.mono Q2.out.size))
      have NF9 := Lib.hid (NFa2.out.below hb)
      clear hb l0 l1 k0 k1 CE1 La2 Lb2 Lx2 Lf2 Q2 NFa2 NFb2
      obtain ⟨l0, l1⟩ := La3.out.cells2
      go_wp2_with fail
      have hsf : kf2 ≤ 301 := Nat.le_trans (HKS.out (fun i hi => (HS1.out.2.2 i hi).1) HS1.out.2.1).1 (by have := HS1.out.1; omega)
      go_loopw [17] (KwR (w2.alloc (.cells #[.int .u32 (ep : Int), .slice Ax n cx] 25)) w4.heap.size Aa kf2 ca Ya w5.heap.size w2.heap.size w.heap.size #[.int .u32 (kf1 : Int), .slice Aa kf2 ca] #[.int .u32 (ep : Int), .slice Ax n cx] #[.int .u32 (ep : Int), .slice A n c]) (fun i _ => kf2 - (intOf i).toNat)
      case atStart => exact ⟨0, Ya, by omega, rfl, NF9.out.row, (fun k _ _ => rfl), (fun k _ hk => NF9.out.a k hk), La3.out, Lx3.out, Lf3.out, Q3.out⟩
      case round =>
        obtain ⟨j, X, hj, rfl, hrow, hsame, htx, hls, hlx, hlf, hq⟩ := hrel
        have RW := Lib.hid hrow
        have SM2 := Lib.hid hsame
        have TX := Lib.hid htx
        have Ls := Lib.hid hls
        have Lx := Lib.hid hlx
        have Lf := Lib.hid hlf
        have Q := Lib.hid hq
        clear hrow hsame htx hls hlx hlf hq l0 l1
        obtain ⟨l0, l1⟩ := Ls.out.cells2
        by_cases hlt : j < kf2
        · obtain ⟨A', c', hv, -, -, -, hat⟩ := RW.out.slice
          injection hv with z1 z2 z3
          subst z1 z3
          obtain ⟨b, off, rfl, -, hbB, -⟩ := hat (by omega)
          have HBB := Lib.hid hbB
          have hi : (j : Int) < (kf2 : Int) := by omega
          have HXJ := Lib.hid (SM2.out j (Nat.le_refl _) hlt)
          have HTX := Lib.hid (TX.out j (Nat.le_refl _) hlt)
          obtain ⟨E2, d2, e2, -⟩ := HTX.out.slice
          obtain ⟨⟨q0, q1, q2, q3, q4, q5⟩, f0, f1, f2, f3, f4, f5⟩ := RW.out.at j hlt
          rw [HXJ.out, e2] at q3
          have CSp := Lib.hid (spoil_own _ _ _ wr HTX.out (by rw [HYa.out j hlt]; have h1 := (HKS.out (fun i hi => (HS1.out.2.2 i hi).1) HS1.out.2.1).2 j hlt; omega))
          rw [e2] at CSp
          clear q0 q1 q2 q4 q5 f0 f1 f2 f3 f4 f5 hat hbB z2
          go_wp2_with fail
          with_reducible refine CSp.out.mono ?_
          rintro x v3' ⟨rfl, hg⟩
          rw [← e2] at hg
          have RW3 := Lib.hid (RW.out.grown5 HTX.out hg)
          have Ls3 := Lib.hid (Lies.grown5 Ls.out (by decide) HTX.out hg)
          have Lx3' := Lib.hid (Lies.grown5 Lx.out (by decide) HTX.out hg)
          have Lf3' := Lib.hid (Lies.grown5 Lf.out (by decide) HTX.out hg)
          have Q3b := Lib.hid (below_grown5 Q.out HTX.out hg BX_w.out.size Q.out.size)
          have TX3 : Hid (∀ k, j + 1 ≤ k → k < kf2 → Own v3' w4.heap.size (Ya k).K (Ya k).k.a) := Lib.hid (fun k h1 h2 => (TX.out k (by omega) h2).grownOther hg (fun g e1 e2 => NF9.out.da k j h2 (by omega) g e2 e1))
          clear hg q3 l0 l1 CSp
          obtain ⟨l0, l1⟩ := Ls3.out.cells2
          obtain ⟨⟨q0, q1, q2, q3, q4, q5⟩, f0, f1, f2, f3, f4, f5⟩ := RW3.out.at j hlt
          obtain ⟨rcs, hrl⟩ := RW3.out.lies
          have RL := Lib.hid hrl
          clear hrl e2
          have SET := Lib.hid (RW3.out.set1 j 4 hlt (by decide) (.int .i64 9) ⟨⟨(X j).k.o, (X j).k.s, (X j).k.u, (X j).k.a, 9, (X j).k.r⟩, (X j).K, (X j).D⟩ (fun i => by rcases i with _ | _ | _ | _ | _ | i <;> simp))
          go_wp2
          go_roundw
          case rel =>
            refine ⟨j + 1, _, by omega, by go_num, SET.out, fun k h1 h2 => ?_, fun k h1 h2 => (TX3.out k h1 h2).lies_put RL.out (by decide) _ _, Ls3.out.other (a := ⟨b, off + j * 6 + 4, none⟩) (fun e => RW3.out.ne Ls3.out (by decide) (by rw [e]; rfl)) _, Lx3'.out.other (a := ⟨b, off + j * 6 + 4, none⟩) (fun e => RW3.out.ne Lx3'.out (by decide) (by rw [e]; rfl)) _, Lf3'.out.other (a := ⟨b, off + j * 6 + 4, none⟩) (fun e => RW3.out.ne Lf3'.out (by decide) (by rw [e]; rfl)) _, Q3b.out.setCell (p := ⟨b, off + j * 6 + 4, none⟩) (Nat.le_trans BX_w.out.size HBB.out) _⟩
            try dsimp only
            rw [if_neg (by omega)]
            exact SM2.out k (by omega) h2
          case measure => simp [intOf]; omega
        · have d0 : decide ((j : Int) < (kf2 : Int)) = false := by rw [decide_eq_false_iff_not]; omega
          have d0b : decide (j < kf2) = false := by rw [decide_eq_false_iff_not]; omega
          obtain ⟨x0, x1⟩ := Lx.out.cells2
          obtain ⟨y0, y1⟩ := Lf.out.cells2
          have CE := Lib.hid (CSF.out ep Ax A n cx c T wr (HX2.out.below Q.out) (HF_2.out.below Q.out))
          have BE := Lib.hid (BB_2.out.trans (Q.out.mono BB_2.out.size))
          go_wp2_with fail
          with_reducible refine CE.out.mono ?_
          rintro x v4 ⟨rfl, hb⟩
          have BE4 := Lib.hid (BE.out.trans (hb.mono BE.out.size))
          clear hb
          go_wp2_with fail
          with_reducible refine (CKN.out _).mono ?_
          rintro x v5 ⟨rfl, hb⟩
          have BE5 := Lib.hid (BE4.out.trans (hb.mono BE4.out.size))
          clear hb
          go_wp2
          go_ret
          exact ⟨rfl, BE5.out⟩
  · go_wp2_with fail
    with_reducible refine (CKN.out _).mono ?_
    rintro x w2 ⟨rfl, hb⟩
    have BBk := Lib.hid (BB_1.out.trans (hb.mono BB_1.out.size))
    clear hb
    go_wp2
    go_ret
    exact ⟨rfl, BBk.out⟩

end Go.Proofs.Ytfcfejmammohpaa
