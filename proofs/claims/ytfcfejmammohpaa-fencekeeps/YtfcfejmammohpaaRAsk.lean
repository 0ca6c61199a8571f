/-
  The contract of the document's Ask.
-/
import Derived.Test.YtfcfejmammohpaaRFind
import Derived.Test.YtfcfejmammohpaaAsk
import Derived.Test.YtfcfejmammohpaaRChk2
import Derived.Deep.RegionHeld3
namespace Go.Proofs.Ytfcfejmammohpaa
open Go.RowKit
set_option maxRecDepth 100000
set_option linter.unusedVariables false
set_option linter.unusedSimpArgs false

def RAskPost (w : World) (a : An) (x : Ending) (w' : World) : Prop := ∃ y, x = .returned (.tuple #[.int .i64 (a.act : Nat), .agg (kc y), .int .i64 (a.e : Nat)]) ∧ y.k = a.k ∧ KT w' y ∧ Below w.heap.size w w'
theorem kt_bys {w : World} {x : Kx} (h : KT w x) : ∃ A1 c1 A2 c2, x.K = .slice A1 x.k.a.length c1 ∧ x.D = .slice A2 x.k.r.length c2 ∧ Bys w A1 x.k.a.length x.k.a := by
  obtain ⟨A1, c1, e1, g1, _⟩ := h.a
  obtain ⟨A2, c2, e2, _⟩ := h.r
  exact ⟨A1, c1, A2, c2, e1, e2, g1⟩
theorem Reads.put6 {w : World} {u : Value} {l : List Nat} {g : Nat} (h : Reads w u l) (hL : Lies w g 34 #[.int .u32 0, .int .i64 0, .bool false, .slice none 0 0, .int .i64 0, .slice none 0 0]) (a0 a1 a2 a3 a4 a5 : Value) : Reads (Go.Proofs.Ytfcfejmammohpaa.put6 w g a0 a1 a2 a3 a4 a5) u l := by
  obtain ⟨A, c, e, hB, h1, h2, h3⟩ := h
  refine ⟨A, c, e, ⟨hB.1, hB.2.1, fun h0 => ?_⟩, h1, h2, h3⟩
  obtain ⟨b, off, eA, hc⟩ := hB.2.2 h0
  refine ⟨b, off, eA, fun i hi => ?_⟩
  have hi' := hc i hi
  have hne : g ≠ b := by
    rintro rfl
    rw [hL.cell] at hi'
    have : off + i < 6 := by
      refine Classical.byContradiction fun hn => ?_
      rw [Array.getElem?_eq_none (by simpa using hn)] at hi'
      cases hi'
    generalize off + i = k at *
    rcases k with _ | _ | _ | _ | _ | _ | k
    · simp at hi'
    · simp at hi'
    · simp at hi'
    · simp at hi'
    · simp at hi'
    · simp at hi'
    · omega
  rw [World.cell?_setCell_far _ _ _ _ hne, World.cell?_setCell_far _ _ _ _ hne, World.cell?_setCell_far _ _ _ _ hne, World.cell?_setCell_far _ _ _ _ hne, World.cell?_setCell_far _ _ _ _ hne, World.cell?_setCell_far _ _ _ _ hne]
  exact hi'
theorem KT.put6 {w : World} {x : Kx} {g : Nat} (h : KT w x) (hL : Lies w g 34 #[.int .u32 0, .int .i64 0, .bool false, .slice none 0 0, .int .i64 0, .slice none 0 0]) (a0 a1 a2 a3 a4 a5 : Value) : KT (Go.Proofs.Ytfcfejmammohpaa.put6 w g a0 a1 a2 a3 a4 a5) x := ⟨h.a.put6 hL _ _ _ _ _ _, h.r.put6 hL _ _ _ _ _ _, h.o, h.s, h.c⟩
set_option maxHeartbeats 32000000 in
theorem rask_any (ep : Nat) (A : Option Addr) (n c : Nat) (T : Nat → Kp) (N : Note) (A1 A2 : Option Addr) (c1 c2 : Nat) (w : World) (hF : FV w A n c T) (hN : EntV w N A1 A2 c1 c2) (hs : in64 N.step) (hep : ep < 4294967296) :
    Calls Try.prog 15 #[.agg #[.int .u32 (ep : Int), .slice A n c], .agg (evs N (.slice A1 N.key.length c1) (.slice A2 N.data.length c2))] w (RAskPost w (askS ep n T N)) := by
  have CK := Lib.hid (fun W (h : FV W A n c T) => rcheck_fence ep A n c T W h)
  have CR := Lib.hid (fun W => rcheck_any N A1 A2 c1 c2 W hN.b)
  unfold ChkPost chkN at CR
  have BB := Lib.hid (below3 w (.cells #[.int .u32 (ep : Int), .slice A n c] 25) (.cells (evs N (.slice A1 N.key.length c1) (.slice A2 N.data.length c2)) 29) (.cells #[.int .u32 0, .int .i64 0, .bool false, .slice none 0 0, .int .i64 0, .slice none 0 0] 34))
  have LF := Lib.hid (((Lies.made w 25 #[.int .u32 (ep : Int), .slice A n c]).alloc (.cells (evs N (.slice A1 N.key.length c1) (.slice A2 N.data.length c2)) 29)).alloc (.cells #[.int .u32 0, .int .i64 0, .bool false, .slice none 0 0, .int .i64 0, .slice none 0 0] 34))
  have LN := Lib.hid ((Lies.made2 w (.cells #[.int .u32 (ep : Int), .slice A n c] 25) 29 (evs N (.slice A1 N.key.length c1) (.slice A2 N.data.length c2))).alloc (.cells #[.int .u32 0, .int .i64 0, .bool false, .slice none 0 0, .int .i64 0, .slice none 0 0] 34))
  have LR := Lib.hid (Lies.made3 w (.cells #[.int .u32 (ep : Int), .slice A n c] 25) (.cells (evs N (.slice A1 N.key.length c1) (.slice A2 N.data.length c2)) 29) 34 #[.int .u32 0, .int .i64 0, .bool false, .slice none 0 0, .int .i64 0, .slice none 0 0])
  have HF := Lib.hid (hF.below BB.out)
  have HD := Lib.hid (hN.d.below BB.out)
  cases hok : okB n T
  · rw [chkC_bad hok] at CK
    cases h2 : Ent.ok N
    · rw [h2, if_neg (by decide)] at CR
      rw [show askS ep n T N = ⟨0, kz, 2⟩ from by unfold askS; rw [if_neg (by rintro ⟨h1, h2⟩; rw [hok] at h1; cases h1)]]
      unfold RAskPost
      obtain ⟨kd, e, ol, ls, tk, od, st, un, cd, ky, da⟩ := N
      dsimp only at *
      generalize ky.length = n1 at *
      generalize da.length = n2 at *
      clear hok h2 hN hF hs
      go_enter Try.func15, Try.ntmps15
      go_wp2_with fail
      with_reducible refine (CK.out _ HF.out).mono ?_
      rintro x w1 ⟨rfl, hb⟩
      have LF_1 := Lib.hid ((Lies.below LF.out hb LF.out.lt))
      have LN_1 := Lib.hid ((Lies.below LN.out hb LN.out.lt))
      have LR_1 := Lib.hid ((Lies.below LR.out hb LR.out.lt))
      have BB_1 := Lib.hid (BB.out.trans (hb.mono BB.out.size))
      have HF_1 := Lib.hid ((HF.out.below hb))
      clear hb
      obtain ⟨c0_0, c0_1⟩ := LF_1.out.cells2
      obtain ⟨f0_0, f0_1⟩ := LF_1.out.free2
      obtain ⟨c1_0, c1_1, c1_2, c1_3, c1_4, c1_5, c1_6, c1_7, c1_8, c1_9, c1_10⟩ := LN_1.out.cells11
      obtain ⟨f1_0, f1_1, f1_2, f1_3, f1_4, f1_5, f1_6, f1_7, f1_8, f1_9, f1_10⟩ := LN_1.out.free11
      obtain ⟨c2_0, c2_1, c2_2, c2_3, c2_4, c2_5⟩ := LR_1.out.cells6
      obtain ⟨f2_0, f2_1, f2_2, f2_3, f2_4, f2_5⟩ := LR_1.out.free6
      go_wp2_with fail
      with_reducible refine (CR.out _).mono ?_
      rintro x w2 ⟨rfl, hb⟩
      have LF_2 := Lib.hid ((Lies.below LF_1.out hb LF_1.out.lt))
      have LN_2 := Lib.hid ((Lies.below LN_1.out hb LN_1.out.lt))
      have LR_2 := Lib.hid ((Lies.below LR_1.out hb LR_1.out.lt))
      have BB_2 := Lib.hid (BB_1.out.trans (hb.mono BB_1.out.size))
      have HF_2 := Lib.hid ((HF_1.out.below hb))
      clear hb
      clear c0_0 c0_1 f0_0 f0_1 c1_0 c1_1 c1_2 c1_3 c1_4 c1_5 c1_6 c1_7 c1_8 c1_9 c1_10 f1_0 f1_1 f1_2 f1_3 f1_4 f1_5 f1_6 f1_7 f1_8 f1_9 f1_10 c2_0 c2_1 c2_2 c2_3 c2_4 c2_5 f2_0 f2_1 f2_2 f2_3 f2_4 f2_5
      obtain ⟨c0_0, c0_1⟩ := LF_2.out.cells2
      obtain ⟨f0_0, f0_1⟩ := LF_2.out.free2
      obtain ⟨c1_0, c1_1, c1_2, c1_3, c1_4, c1_5, c1_6, c1_7, c1_8, c1_9, c1_10⟩ := LN_2.out.cells11
      obtain ⟨f1_0, f1_1, f1_2, f1_3, f1_4, f1_5, f1_6, f1_7, f1_8, f1_9, f1_10⟩ := LN_2.out.free11
      obtain ⟨c2_0, c2_1, c2_2, c2_3, c2_4, c2_5⟩ := LR_2.out.cells6
      obtain ⟨f2_0, f2_1, f2_2, f2_3, f2_4, f2_5⟩ := LR_2.out.free6
      go_wp2
      exact ret_ask (w.heap.size + 1 + 1) 34 _ rfl rfl (LR_2.out.put6 _ _ _ _ _ _) rfl rfl ⟨_, rfl, rfl, kt_zero _, below_put6 BB_2.out (by omega) _ _ _ _ _ _⟩
    · rw [h2, if_pos rfl] at CR
      rw [show askS ep n T N = ⟨0, kz, 2⟩ from by unfold askS; rw [if_neg (by rintro ⟨h1, h2⟩; rw [hok] at h1; cases h1)]]
      unfold RAskPost
      obtain ⟨kd, e, ol, ls, tk, od, st, un, cd, ky, da⟩ := N
      dsimp only at *
      generalize ky.length = n1 at *
      generalize da.length = n2 at *
      clear hok h2 hN hF hs
      go_enter Try.func15, Try.ntmps15
      go_wp2_with fail
      with_reducible refine (CK.out _ HF.out).mono ?_
      rintro x w1 ⟨rfl, hb⟩
      have LF_1 := Lib.hid ((Lies.below LF.out hb LF.out.lt))
      have LN_1 := Lib.hid ((Lies.below LN.out hb LN.out.lt))
      have LR_1 := Lib.hid ((Lies.below LR.out hb LR.out.lt))
      have BB_1 := Lib.hid (BB.out.trans (hb.mono BB.out.size))
      have HF_1 := Lib.hid ((HF.out.below hb))
      clear hb
      obtain ⟨c0_0, c0_1⟩ := LF_1.out.cells2
      obtain ⟨f0_0, f0_1⟩ := LF_1.out.free2
      obtain ⟨c1_0, c1_1, c1_2, c1_3, c1_4, c1_5, c1_6, c1_7, c1_8, c1_9, c1_10⟩ := LN_1.out.cells11
      obtain ⟨f1_0, f1_1, f1_2, f1_3, f1_4, f1_5, f1_6, f1_7, f1_8, f1_9, f1_10⟩ := LN_1.out.free11
      obtain ⟨c2_0, c2_1, c2_2, c2_3, c2_4, c2_5⟩ := LR_1.out.cells6
      obtain ⟨f2_0, f2_1, f2_2, f2_3, f2_4, f2_5⟩ := LR_1.out.free6
      go_wp2_with fail
      with_reducible refine (CR.out _).mono ?_
      rintro x w2 ⟨rfl, hb⟩
      have LF_2 := Lib.hid ((Lies.below LF_1.out hb LF_1.out.lt))
      have LN_2 := Lib.hid ((Lies.below LN_1.out hb LN_1.out.lt))
      have LR_2 := Lib.hid ((Lies.below LR_1.out hb LR_1.out.lt))
      have BB_2 := Lib.hid (BB_1.out.trans (hb.mono BB_1.out.size))
      have HF_2 := Lib.hid ((HF_1.out.below hb))
      clear hb
      clear c0_0 c0_1 f0_0 f0_1 c1_0 c1_1 c1_2 c1_3 c1_4 c1_5 c1_6 c1_7 c1_8 c1_9 c1_10 f1_0 f1_1 f1_2 f1_3 f1_4 f1_5 f1_6 f1_7 f1_8 f1_9 f1_10 c2_0 c2_1 c2_2 c2_3 c2_4 c2_5 f2_0 f2_1 f2_2 f2_3 f2_4 f2_5
      obtain ⟨c0_0, c0_1⟩ := LF_2.out.cells2
      obtain ⟨f0_0, f0_1⟩ := LF_2.out.free2
      obtain ⟨c1_0, c1_1, c1_2, c1_3, c1_4, c1_5, c1_6, c1_7, c1_8, c1_9, c1_10⟩ := LN_2.out.cells11
      obtain ⟨f1_0, f1_1, f1_2, f1_3, f1_4, f1_5, f1_6, f1_7, f1_8, f1_9, f1_10⟩ := LN_2.out.free11
      obtain ⟨c2_0, c2_1, c2_2, c2_3, c2_4, c2_5⟩ := LR_2.out.cells6
      obtain ⟨f2_0, f2_1, f2_2, f2_3, f2_4, f2_5⟩ := LR_2.out.free6
      go_wp2
      exact ret_ask (w.heap.size + 1 + 1) 34 _ rfl rfl (LR_2.out.put6 _ _ _ _ _ _) rfl rfl ⟨_, rfl, rfl, kt_zero _, below_put6 BB_2.out (by omega) _ _ _ _ _ _⟩
  · rw [chkC_ok hok] at CK
    cases h2 : Ent.ok N
    · rw [h2, if_neg (by decide)] at CR
      rw [show askS ep n T N = ⟨0, kz, 2⟩ from by unfold askS; rw [if_neg (by rintro ⟨h1, h2⟩; unfold reqB at h2; rw [‹Ent.ok N = false›] at h2; simp at h2)]]
      unfold RAskPost
      obtain ⟨kd, e, ol, ls, tk, od, st, un, cd, ky, da⟩ := N
      dsimp only at *
      generalize ky.length = n1 at *
      generalize da.length = n2 at *
      clear hok h2 hN hF hs
      go_enter Try.func15, Try.ntmps15
      go_wp2_with fail
      with_reducible refine (CK.out _ HF.out).mono ?_
      rintro x w1 ⟨rfl, hb⟩
      have LF_1 := Lib.hid ((Lies.below LF.out hb LF.out.lt))
      have LN_1 := Lib.hid ((Lies.below LN.out hb LN.out.lt))
      have LR_1 := Lib.hid ((Lies.below LR.out hb LR.out.lt))
      have BB_1 := Lib.hid (BB.out.trans (hb.mono BB.out.size))
      have HF_1 := Lib.hid ((HF.out.below hb))
      clear hb
      obtain ⟨c0_0, c0_1⟩ := LF_1.out.cells2
      obtain ⟨f0_0, f0_1⟩ := LF_1.out.free2
      obtain ⟨c1_0, c1_1, c1_2, c1_3, c1_4, c1_5, c1_6, c1_7, c1_8, c1_9, c1_10⟩ := LN_1.out.cells11
      obtain ⟨f1_0, f1_1, f1_2, f1_3, f1_4, f1_5, f1_6, f1_7, f1_8, f1_9, f1_10⟩ := LN_1.out.free11
      obtain ⟨c2_0, c2_1, c2_2, c2_3, c2_4, c2_5⟩ := LR_1.out.cells6
      obtain ⟨f2_0, f2_1, f2_2, f2_3, f2_4, f2_5⟩ := LR_1.out.free6
      go_wp2_with fail
      with_reducible refine (CR.out _).mono ?_
      rintro x w2 ⟨rfl, hb⟩
      have LF_2 := Lib.hid ((Lies.below LF_1.out hb LF_1.out.lt))
      have LN_2 := Lib.hid ((Lies.below LN_1.out hb LN_1.out.lt))
      have LR_2 := Lib.hid ((Lies.below LR_1.out hb LR_1.out.lt))
      have BB_2 := Lib.hid (BB_1.out.trans (hb.mono BB_1.out.size))
      have HF_2 := Lib.hid ((HF_1.out.below hb))
      clear hb
      clear c0_0 c0_1 f0_0 f0_1 c1_0 c1_1 c1_2 c1_3 c1_4 c1_5 c1_6 c1_7 c1_8 c1_9 c1_10 f1_0 f1_1 f1_2 f1_3 f1_4 f1_5 f1_6 f1_7 f1_8 f1_9 f1_10 c2_0 c2_1 c2_2 c2_3 c2_4 c2_5 f2_0 f2_1 f2_2 f2_3 f2_4 f2_5
      obtain ⟨c0_0, c0_1⟩ := LF_2.out.cells2
      obtain ⟨f0_0, f0_1⟩ := LF_2.out.free2
      obtain ⟨c1_0, c1_1, c1_2, c1_3, c1_4, c1_5, c1_6, c1_7, c1_8, c1_9, c1_10⟩ := LN_2.out.cells11
      obtain ⟨f1_0, f1_1, f1_2, f1_3, f1_4, f1_5, f1_6, f1_7, f1_8, f1_9, f1_10⟩ := LN_2.out.free11
      obtain ⟨c2_0, c2_1, c2_2, c2_3, c2_4, c2_5⟩ := LR_2.out.cells6
      obtain ⟨f2_0, f2_1, f2_2, f2_3, f2_4, f2_5⟩ := LR_2.out.free6
      go_wp2
      exact ret_ask (w.heap.size + 1 + 1) 34 _ rfl rfl (LR_2.out.put6 _ _ _ _ _ _) rfl rfl ⟨_, rfl, rfl, kt_zero _, below_put6 BB_2.out (by omega) _ _ _ _ _ _⟩
    · rw [h2, if_pos rfl] at CR
      by_cases h3 : N.kind = 7
      · have d3 : (N.kind != 7) = false := by simpa using h3
        by_cases h4 : N.epoch = 0
        · have d4 : ((N.epoch : Int) == 0) = true := by simp; omega
          rw [show askS ep n T N = ⟨0, kz, 2⟩ from by unfold askS; rw [if_neg (by rintro ⟨h1, h2⟩; unfold reqB at h2; simp [h4] at h2)]]
          unfold RAskPost
          obtain ⟨kd, e, ol, ls, tk, od, st, un, cd, ky, da⟩ := N
          dsimp only at *
          generalize ky.length = n1 at *
          generalize da.length = n2 at *
          clear hok h2 h3 h4 hN hF hs
          go_enter Try.func15, Try.ntmps15
          go_wp2_with fail
          with_reducible refine (CK.out _ HF.out).mono ?_
          rintro x w1 ⟨rfl, hb⟩
          have LF_1 := Lib.hid ((Lies.below LF.out hb LF.out.lt))
          have LN_1 := Lib.hid ((Lies.below LN.out hb LN.out.lt))
          have LR_1 := Lib.hid ((Lies.below LR.out hb LR.out.lt))
          have BB_1 := Lib.hid (BB.out.trans (hb.mono BB.out.size))
          have HF_1 := Lib.hid ((HF.out.below hb))
          clear hb
          obtain ⟨c0_0, c0_1⟩ := LF_1.out.cells2
          obtain ⟨f0_0, f0_1⟩ := LF_1.out.free2
          obtain ⟨c1_0, c1_1, c1_2, c1_3, c1_4, c1_5, c1_6, c1_7, c1_8, c1_9, c1_10⟩ := LN_1.out.cells11
          obtain ⟨f1_0, f1_1, f1_2, f1_3, f1_4, f1_5, f1_6, f1_7, f1_8, f1_9, f1_10⟩ := LN_1.out.free11
          obtain ⟨c2_0, c2_1, c2_2, c2_3, c2_4, c2_5⟩ := LR_1.out.cells6
          obtain ⟨f2_0, f2_1, f2_2, f2_3, f2_4, f2_5⟩ := LR_1.out.free6
          go_wp2_with fail
          with_reducible refine (CR.out _).mono ?_
          rintro x w2 ⟨rfl, hb⟩
          have LF_2 := Lib.hid ((Lies.below LF_1.out hb LF_1.out.lt))
          have LN_2 := Lib.hid ((Lies.below LN_1.out hb LN_1.out.lt))
          have LR_2 := Lib.hid ((Lies.below LR_1.out hb LR_1.out.lt))
          have BB_2 := Lib.hid (BB_1.out.trans (hb.mono BB_1.out.size))
          have HF_2 := Lib.hid ((HF_1.out.below hb))
          clear hb
          clear c0_0 c0_1 f0_0 f0_1 c1_0 c1_1 c1_2 c1_3 c1_4 c1_5 c1_6 c1_7 c1_8 c1_9 c1_10 f1_0 f1_1 f1_2 f1_3 f1_4 f1_5 f1_6 f1_7 f1_8 f1_9 f1_10 c2_0 c2_1 c2_2 c2_3 c2_4 c2_5 f2_0 f2_1 f2_2 f2_3 f2_4 f2_5
          obtain ⟨c0_0, c0_1⟩ := LF_2.out.cells2
          obtain ⟨f0_0, f0_1⟩ := LF_2.out.free2
          obtain ⟨c1_0, c1_1, c1_2, c1_3, c1_4, c1_5, c1_6, c1_7, c1_8, c1_9, c1_10⟩ := LN_2.out.cells11
          obtain ⟨f1_0, f1_1, f1_2, f1_3, f1_4, f1_5, f1_6, f1_7, f1_8, f1_9, f1_10⟩ := LN_2.out.free11
          obtain ⟨c2_0, c2_1, c2_2, c2_3, c2_4, c2_5⟩ := LR_2.out.cells6
          obtain ⟨f2_0, f2_1, f2_2, f2_3, f2_4, f2_5⟩ := LR_2.out.free6
          go_wp2
          exact ret_ask (w.heap.size + 1 + 1) 34 _ rfl rfl (LR_2.out.put6 _ _ _ _ _ _) rfl rfl ⟨_, rfl, rfl, kt_zero _, below_put6 BB_2.out (by omega) _ _ _ _ _ _⟩
        · have d4 : ((N.epoch : Int) == 0) = false := by simp; omega
          by_cases h5 : N.order = 0
          · have d5 : ((N.order : Int) == 0) = true := by simp; omega
            rw [show askS ep n T N = ⟨0, kz, 2⟩ from by unfold askS; rw [if_neg (by rintro ⟨h1, h2⟩; unfold reqB at h2; simp [h5] at h2)]]
            unfold RAskPost
            obtain ⟨kd, e, ol, ls, tk, od, st, un, cd, ky, da⟩ := N
            dsimp only at *
            generalize ky.length = n1 at *
            generalize da.length = n2 at *
            clear hok h2 h3 h4 h5 hN hF hs
            go_enter Try.func15, Try.ntmps15
            go_wp2_with fail
            with_reducible refine (CK.out _ HF.out).mono ?_
            rintro x w1 ⟨rfl, hb⟩
            have LF_1 := Lib.hid ((Lies.below LF.out hb LF.out.lt))
            have LN_1 := Lib.hid ((Lies.below LN.out hb LN.out.lt))
            have LR_1 := Lib.hid ((Lies.below LR.out hb LR.out.lt))
            have BB_1 := Lib.hid (BB.out.trans (hb.mono BB.out.size))
            have HF_1 := Lib.hid ((HF.out.below hb))
            clear hb
            obtain ⟨c0_0, c0_1⟩ := LF_1.out.cells2
            obtain ⟨f0_0, f0_1⟩ := LF_1.out.free2
            obtain ⟨c1_0, c1_1, c1_2, c1_3, c1_4, c1_5, c1_6, c1_7, c1_8, c1_9, c1_10⟩ := LN_1.out.cells11
            obtain ⟨f1_0, f1_1, f1_2, f1_3, f1_4, f1_5, f1_6, f1_7, f1_8, f1_9, f1_10⟩ := LN_1.out.free11
            obtain ⟨c2_0, c2_1, c2_2, c2_3, c2_4, c2_5⟩ := LR_1.out.cells6
            obtain ⟨f2_0, f2_1, f2_2, f2_3, f2_4, f2_5⟩ := LR_1.out.free6
            go_wp2_with fail
            with_reducible refine (CR.out _).mono ?_
            rintro x w2 ⟨rfl, hb⟩
            have LF_2 := Lib.hid ((Lies.below LF_1.out hb LF_1.out.lt))
            have LN_2 := Lib.hid ((Lies.below LN_1.out hb LN_1.out.lt))
            have LR_2 := Lib.hid ((Lies.below LR_1.out hb LR_1.out.lt))
            have BB_2 := Lib.hid (BB_1.out.trans (hb.mono BB_1.out.size))
            have HF_2 := Lib.hid ((HF_1.out.below hb))
            clear hb
            clear c0_0 c0_1 f0_0 f0_1 c1_0 c1_1 c1_2 c1_3 c1_4 c1_5 c1_6 c1_7 c1_8 c1_9 c1_10 f1_0 f1_1 f1_2 f1_3 f1_4 f1_5 f1_6 f1_7 f1_8 f1_9 f1_10 c2_0 c2_1 c2_2 c2_3 c2_4 c2_5 f2_0 f2_1 f2_2 f2_3 f2_4 f2_5
            obtain ⟨c0_0, c0_1⟩ := LF_2.out.cells2
            obtain ⟨f0_0, f0_1⟩ := LF_2.out.free2
            obtain ⟨c1_0, c1_1, c1_2, c1_3, c1_4, c1_5, c1_6, c1_7, c1_8, c1_9, c1_10⟩ := LN_2.out.cells11
            obtain ⟨f1_0, f1_1, f1_2, f1_3, f1_4, f1_5, f1_6, f1_7, f1_8, f1_9, f1_10⟩ := LN_2.out.free11
            obtain ⟨c2_0, c2_1, c2_2, c2_3, c2_4, c2_5⟩ := LR_2.out.cells6
            obtain ⟨f2_0, f2_1, f2_2, f2_3, f2_4, f2_5⟩ := LR_2.out.free6
            go_wp2
            exact ret_ask (w.heap.size + 1 + 1) 34 _ rfl rfl (LR_2.out.put6 _ _ _ _ _ _) rfl rfl ⟨_, rfl, rfl, kt_zero _, below_put6 BB_2.out (by omega) _ _ _ _ _ _⟩
          · have d5 : ((N.order : Int) == 0) = false := by simp; omega
            have hr : reqB N = true := by unfold reqB; rw [h2]; simp [h3, h4, h5]
            by_cases hst : N.epoch < ep
            · rw [show askS ep n T N = ⟨0, kz, 72⟩ from by unfold askS; rw [if_pos ⟨hok, hr⟩, if_pos hst]]
              have ds : decide ((N.epoch : Int) < (ep : Int)) = true := by rw [decide_eq_true_iff]; omega
              have ds2 : decide (N.epoch < ep) = true := by rw [decide_eq_true_iff]; omega
              unfold RAskPost
              obtain ⟨kd, e, ol, ls, tk, od, st, un, cd, ky, da⟩ := N
              dsimp only at *
              generalize ky.length = n1 at *
              generalize da.length = n2 at *
              clear hok h2 h3 h4 h5 hr hst hN hF hs
              go_enter Try.func15, Try.ntmps15
              go_wp2_with fail
              with_reducible refine (CK.out _ HF.out).mono ?_
              rintro x w1 ⟨rfl, hb⟩
              have LF_1 := Lib.hid ((Lies.below LF.out hb LF.out.lt))
              have LN_1 := Lib.hid ((Lies.below LN.out hb LN.out.lt))
              have LR_1 := Lib.hid ((Lies.below LR.out hb LR.out.lt))
              have BB_1 := Lib.hid (BB.out.trans (hb.mono BB.out.size))
              have HF_1 := Lib.hid ((HF.out.below hb))
              clear hb
              obtain ⟨c0_0, c0_1⟩ := LF_1.out.cells2
              obtain ⟨f0_0, f0_1⟩ := LF_1.out.free2
              obtain ⟨c1_0, c1_1, c1_2, c1_3, c1_4, c1_5, c1_6, c1_7, c1_8, c1_9, c1_10⟩ := LN_1.out.cells11
              obtain ⟨f1_0, f1_1, f1_2, f1_3, f1_4, f1_5, f1_6, f1_7, f1_8, f1_9, f1_10⟩ := LN_1.out.free11
              obtain ⟨c2_0, c2_1, c2_2, c2_3, c2_4, c2_5⟩ := LR_1.out.cells6
              obtain ⟨f2_0, f2_1, f2_2, f2_3, f2_4, f2_5⟩ := LR_1.out.free6
              go_wp2_with fail
              with_reducible refine (CR.out _).mono ?_
              rintro x w2 ⟨rfl, hb⟩
              have LF_2 := Lib.hid ((Lies.below LF_1.out hb LF_1.out.lt))
              have LN_2 := Lib.hid ((Lies.below LN_1.out hb LN_1.out.lt))
              have LR_2 := Lib.hid ((Lies.below LR_1.out hb LR_1.out.lt))
              have BB_2 := Lib.hid (BB_1.out.trans (hb.mono BB_1.out.size))
              have HF_2 := Lib.hid ((HF_1.out.below hb))
              clear hb
              clear c0_0 c0_1 f0_0 f0_1 c1_0 c1_1 c1_2 c1_3 c1_4 c1_5 c1_6 c1_7 c1_8 c1_9 c1_10 f1_0 f1_1 f1_2 f1_3 f1_4 f1_5 f1_6 f1_7 f1_8 f1_9 f1_10 c2_0 c2_1 c2_2 c2_3 c2_4 c2_5 f2_0 f2_1 f2_2 f2_3 f2_4 f2_5
              obtain ⟨c0_0, c0_1⟩ := LF_2.out.cells2
              obtain ⟨f0_0, f0_1⟩ := LF_2.out.free2
              obtain ⟨c1_0, c1_1, c1_2, c1_3, c1_4, c1_5, c1_6, c1_7, c1_8, c1_9, c1_10⟩ := LN_2.out.cells11
              obtain ⟨f1_0, f1_1, f1_2, f1_3, f1_4, f1_5, f1_6, f1_7, f1_8, f1_9, f1_10⟩ := LN_2.out.free11
              obtain ⟨c2_0, c2_1, c2_2, c2_3, c2_4, c2_5⟩ := LR_2.out.cells6
              obtain ⟨f2_0, f2_1, f2_2, f2_3, f2_4, f2_5⟩ := LR_2.out.free6
              go_wp2
              exact ret_ask (w.heap.size + 1 + 1) 34 _ rfl rfl (LR_2.out.put6 _ _ _ _ _ _) rfl rfl ⟨_, rfl, rfl, kt_zero _, below_put6 BB_2.out (by omega) _ _ _ _ _ _⟩
            · have ds : decide ((N.epoch : Int) < (ep : Int)) = false := by rw [decide_eq_false_iff_not]; omega
              have ds2 : decide (N.epoch < ep) = false := by rw [decide_eq_false_iff_not]; omega
              have CF := Lib.hid (fun W (h : FV W A n c T) => rfind_any ep A n c T N.order N.step N.undo W h hs)
              have CG := Lib.hid (fun W (h : FV W A n c T) => rfind_any ep A n c T N.order N.step (!N.undo) W h hs)
              have HFB : Hid (findB n T (kn N.order N.step N.undo) = has n T (nk N)) := Lib.hid (by unfold findB; rw [hok]; rfl)
              have HGB : Hid (findB n T (kn N.order N.step (!N.undo)) = has n T (nk' N)) := Lib.hid (by unfold findB; rw [hok]; rfl)
              have HFK : Hid (has n T (nk N) = true → findK n T (kn N.order N.step N.undo) = T (pos T (nk N) n)) := Lib.hid (fun h => by unfold findK; rw [if_pos ⟨hok, h⟩])
              have HGK : Hid (has n T (nk' N) = true → findK n T (kn N.order N.step (!N.undo)) = T (pos T (nk' N) n)) := Lib.hid (fun h => by unfold findK; rw [if_pos ⟨hok, h⟩])
              rw [HFB.out] at CF
              rw [HGB.out] at CG
              have HASK : Hid (askS ep n T N = if has n T (nk N) = true then (if (T (pos T (nk N) n)).a = N.data then ⟨2, T (pos T (nk N) n), 0⟩ else ⟨0, kz, 80⟩) else ⟨actN n T N, kz, 0⟩) := Lib.hid (by unfold askS; rw [if_pos ⟨hok, hr⟩, if_neg hst])
              have HAN : Hid (actN n T N = if N.undo = false ∧ has n T (nk' N) = true then 3 else if N.undo = true ∧ (has n T (nk' N) = false ∨ (T (pos T (nk' N) n)).c = 2) then 4 else 1) := Lib.hid rfl
              clear h2 h3 h4 h5 hr hst hok HFB HGB hF hN
              cases hh : has n T (nk N)
              · rw [hh] at CF
                rw [if_neg (by rw [hh]; decide)] at HASK
                cases hg : has n T (nk' N)
                · rw [hg] at CG
                  cases hu : N.undo
                  · rw [hg, hu] at HAN
                    rw [if_neg (by simp), if_neg (by simp)] at HAN
                    rw [HAN.out] at HASK
                    rw [HASK.out]
                    rw [hu] at CF CG
                    rw [show (!false) = true from rfl] at CG
                    generalize findK n T (kn N.order N.step false) = fk at *
                    generalize findK n T (kn N.order N.step true) = gk at *
                    clear HAN HASK HFK HGK hh hg hs
                    obtain ⟨kd, e, ol, ls, tk, od, st, un, cd, ky, da⟩ := N
                    dsimp only at hu
                    subst hu
                    unfold RAskPost
                    dsimp only at *
                    generalize ky.length = n1 at *
                    generalize da.length = n2 at *
                    go_enter Try.func15, Try.ntmps15
                    go_wp2_with fail
                    with_reducible refine (CK.out _ HF.out).mono ?_
                    rintro x w1 ⟨rfl, hb⟩
                    have LF_1 := Lib.hid ((Lies.below LF.out hb LF.out.lt))
                    have LN_1 := Lib.hid ((Lies.below LN.out hb LN.out.lt))
                    have LR_1 := Lib.hid ((Lies.below LR.out hb LR.out.lt))
                    have BB_1 := Lib.hid (BB.out.trans (hb.mono BB.out.size))
                    have HF_1 := Lib.hid ((HF.out.below hb))
                    clear hb
                    obtain ⟨c0_0, c0_1⟩ := LF_1.out.cells2
                    obtain ⟨f0_0, f0_1⟩ := LF_1.out.free2
                    obtain ⟨c1_0, c1_1, c1_2, c1_3, c1_4, c1_5, c1_6, c1_7, c1_8, c1_9, c1_10⟩ := LN_1.out.cells11
                    obtain ⟨f1_0, f1_1, f1_2, f1_3, f1_4, f1_5, f1_6, f1_7, f1_8, f1_9, f1_10⟩ := LN_1.out.free11
                    obtain ⟨c2_0, c2_1, c2_2, c2_3, c2_4, c2_5⟩ := LR_1.out.cells6
                    obtain ⟨f2_0, f2_1, f2_2, f2_3, f2_4, f2_5⟩ := LR_1.out.free6
                    go_wp2_with fail
                    with_reducible refine (CR.out _).mono ?_
                    rintro x w2 ⟨rfl, hb⟩
                    have LF_2 := Lib.hid ((Lies.below LF_1.out hb LF_1.out.lt))
                    have LN_2 := Lib.hid ((Lies.below LN_1.out hb LN_1.out.lt))
                    have LR_2 := Lib.hid ((Lies.below LR_1.out hb LR_1.out.lt))
                    have BB_2 := Lib.hid (BB_1.out.trans (hb.mono BB_1.out.size))
                    have HF_2 := Lib.hid ((HF_1.out.below hb))
                    clear hb
                    clear c0_0 c0_1 f0_0 f0_1 c1_0 c1_1 c1_2 c1_3 c1_4 c1_5 c1_6 c1_7 c1_8 c1_9 c1_10 f1_0 f1_1 f1_2 f1_3 f1_4 f1_5 f1_6 f1_7 f1_8 f1_9 f1_10 c2_0 c2_1 c2_2 c2_3 c2_4 c2_5 f2_0 f2_1 f2_2 f2_3 f2_4 f2_5
                    obtain ⟨c0_0, c0_1⟩ := LF_2.out.cells2
                    obtain ⟨f0_0, f0_1⟩ := LF_2.out.free2
                    obtain ⟨c1_0, c1_1, c1_2, c1_3, c1_4, c1_5, c1_6, c1_7, c1_8, c1_9, c1_10⟩ := LN_2.out.cells11
                    obtain ⟨f1_0, f1_1, f1_2, f1_3, f1_4, f1_5, f1_6, f1_7, f1_8, f1_9, f1_10⟩ := LN_2.out.free11
                    obtain ⟨c2_0, c2_1, c2_2, c2_3, c2_4, c2_5⟩ := LR_2.out.cells6
                    obtain ⟨f2_0, f2_1, f2_2, f2_3, f2_4, f2_5⟩ := LR_2.out.free6
                    go_wp2_with fail
                    with_reducible refine (CF.out _ HF_2.out).mono ?_
                    rintro x w3 ⟨y, rfl, hy, hkt, hb⟩
                    obtain ⟨fA, fd, fB, fe, z1, z2, hBy⟩ := kt_bys hkt
                    have HKTf := Lib.hid hkt
                    have hyk := hy
                    obtain ⟨yk, yK, yD⟩ := y
                    dsimp only at *
                    subst z1 z2 hyk
                    obtain ⟨fo, fs, fu, fa, fc, fr⟩ := yk
                    dsimp only at *
                    obtain ⟨fm, hm1⟩ : ∃ m, fa.length = m := ⟨_, rfl⟩
                    obtain ⟨fk, hm2⟩ : ∃ m, fr.length = m := ⟨_, rfl⟩
                    rw [hm1] at hBy HKTf
                    rw [hm2] at HKTf
                    rw [hm1, hm2]
                    have HBYf := Lib.hid hBy
                    clear hm1 hm2 hkt hy hBy
                    have LF_3 := Lib.hid ((Lies.below LF_2.out hb LF_2.out.lt).alloc (.cells #[.int .u32 (fo : Int), .int .i64 fs, .bool fu, .slice fA fm fd, .int .i64 fc, .slice fB fk fe] 34))
                    have LN_3 := Lib.hid ((Lies.below LN_2.out hb LN_2.out.lt).alloc (.cells #[.int .u32 (fo : Int), .int .i64 fs, .bool fu, .slice fA fm fd, .int .i64 fc, .slice fB fk fe] 34))
                    have LR_3 := Lib.hid ((Lies.below LR_2.out hb LR_2.out.lt).alloc (.cells #[.int .u32 (fo : Int), .int .i64 fs, .bool fu, .slice fA fm fd, .int .i64 fc, .slice fB fk fe] 34))
                    have BB_3 := Lib.hid ((BB_2.out.trans (hb.mono BB_2.out.size)).alloc (BB_2.out.trans (hb.mono BB_2.out.size)).size (.cells #[.int .u32 (fo : Int), .int .i64 fs, .bool fu, .slice fA fm fd, .int .i64 fc, .slice fB fk fe] 34))
                    have HF_3 := Lib.hid ((HF_2.out.below hb).below (below1 _ (.cells #[.int .u32 (fo : Int), .int .i64 fs, .bool fu, .slice fA fm fd, .int .i64 fc, .slice fB fk fe] 34)))
                    have LN3_3 := Lib.hid (Lies.made w3 34 #[.int .u32 (fo : Int), .int .i64 fs, .bool fu, .slice fA fm fd, .int .i64 fc, .slice fB fk fe])
                    clear hb
                    clear c0_0 c0_1 f0_0 f0_1 c1_0 c1_1 c1_2 c1_3 c1_4 c1_5 c1_6 c1_7 c1_8 c1_9 c1_10 f1_0 f1_1 f1_2 f1_3 f1_4 f1_5 f1_6 f1_7 f1_8 f1_9 f1_10 c2_0 c2_1 c2_2 c2_3 c2_4 c2_5 f2_0 f2_1 f2_2 f2_3 f2_4 f2_5
                    obtain ⟨c0_0, c0_1⟩ := LF_3.out.cells2
                    obtain ⟨f0_0, f0_1⟩ := LF_3.out.free2
                    obtain ⟨c1_0, c1_1, c1_2, c1_3, c1_4, c1_5, c1_6, c1_7, c1_8, c1_9, c1_10⟩ := LN_3.out.cells11
                    obtain ⟨f1_0, f1_1, f1_2, f1_3, f1_4, f1_5, f1_6, f1_7, f1_8, f1_9, f1_10⟩ := LN_3.out.free11
                    obtain ⟨c2_0, c2_1, c2_2, c2_3, c2_4, c2_5⟩ := LR_3.out.cells6
                    obtain ⟨f2_0, f2_1, f2_2, f2_3, f2_4, f2_5⟩ := LR_3.out.free6
                    obtain ⟨c3_0, c3_1, c3_2, c3_3, c3_4, c3_5⟩ := LN3_3.out.cells6
                    obtain ⟨f3_0, f3_1, f3_2, f3_3, f3_4, f3_5⟩ := LN3_3.out.free6
                    go_wp2_with fail
                    with_reducible refine (CG.out _ HF_3.out).mono ?_
                    rintro x w4 ⟨y, rfl, hy, hkt, hb⟩
                    obtain ⟨gA, gd, gB, ge, z1, z2, hBy⟩ := kt_bys hkt
                    have HKTg := Lib.hid hkt
                    have hyk := hy
                    obtain ⟨yk, yK, yD⟩ := y
                    dsimp only at *
                    subst z1 z2 hyk
                    obtain ⟨go, gs, gu, ga, gc, gr⟩ := yk
                    dsimp only at *
                    obtain ⟨gm, hm1⟩ : ∃ m, ga.length = m := ⟨_, rfl⟩
                    obtain ⟨gk, hm2⟩ : ∃ m, gr.length = m := ⟨_, rfl⟩
                    rw [hm1] at hBy HKTg
                    rw [hm2] at HKTg
                    rw [hm1, hm2]
                    have HBYg := Lib.hid hBy
                    clear hm1 hm2 hkt hy hBy
                    have LF_4 := Lib.hid ((Lies.below LF_3.out hb LF_3.out.lt).alloc (.cells #[.int .u32 (go : Int), .int .i64 gs, .bool gu, .slice gA gm gd, .int .i64 gc, .slice gB gk ge] 34))
                    have LN_4 := Lib.hid ((Lies.below LN_3.out hb LN_3.out.lt).alloc (.cells #[.int .u32 (go : Int), .int .i64 gs, .bool gu, .slice gA gm gd, .int .i64 gc, .slice gB gk ge] 34))
                    have LR_4 := Lib.hid ((Lies.below LR_3.out hb LR_3.out.lt).alloc (.cells #[.int .u32 (go : Int), .int .i64 gs, .bool gu, .slice gA gm gd, .int .i64 gc, .slice gB gk ge] 34))
                    have LN3_4 := Lib.hid ((Lies.below LN3_3.out hb LN3_3.out.lt).alloc (.cells #[.int .u32 (go : Int), .int .i64 gs, .bool gu, .slice gA gm gd, .int .i64 gc, .slice gB gk ge] 34))
                    have BB_4 := Lib.hid ((BB_3.out.trans (hb.mono BB_3.out.size)).alloc (BB_3.out.trans (hb.mono BB_3.out.size)).size (.cells #[.int .u32 (go : Int), .int .i64 gs, .bool gu, .slice gA gm gd, .int .i64 gc, .slice gB gk ge] 34))
                    have HF_4 := Lib.hid ((HF_3.out.below hb).below (below1 _ (.cells #[.int .u32 (go : Int), .int .i64 gs, .bool gu, .slice gA gm gd, .int .i64 gc, .slice gB gk ge] 34)))
                    have LN4_4 := Lib.hid (Lies.made w4 34 #[.int .u32 (go : Int), .int .i64 gs, .bool gu, .slice gA gm gd, .int .i64 gc, .slice gB gk ge])
                    clear hb
                    clear c0_0 c0_1 f0_0 f0_1 c1_0 c1_1 c1_2 c1_3 c1_4 c1_5 c1_6 c1_7 c1_8 c1_9 c1_10 f1_0 f1_1 f1_2 f1_3 f1_4 f1_5 f1_6 f1_7 f1_8 f1_9 f1_10 c2_0 c2_1 c2_2 c2_3 c2_4 c2_5 f2_0 f2_1 f2_2 f2_3 f2_4 f2_5 c3_0 c3_1 c3_2 c3_3 c3_4 c3_5 f3_0 f3_1 f3_2 f3_3 f3_4 f3_5
                    obtain ⟨c0_0, c0_1⟩ := LF_4.out.cells2
                    obtain ⟨f0_0, f0_1⟩ := LF_4.out.free2
                    obtain ⟨c1_0, c1_1, c1_2, c1_3, c1_4, c1_5, c1_6, c1_7, c1_8, c1_9, c1_10⟩ := LN_4.out.cells11
                    obtain ⟨f1_0, f1_1, f1_2, f1_3, f1_4, f1_5, f1_6, f1_7, f1_8, f1_9, f1_10⟩ := LN_4.out.free11
                    obtain ⟨c2_0, c2_1, c2_2, c2_3, c2_4, c2_5⟩ := LR_4.out.cells6
                    obtain ⟨f2_0, f2_1, f2_2, f2_3, f2_4, f2_5⟩ := LR_4.out.free6
                    obtain ⟨c3_0, c3_1, c3_2, c3_3, c3_4, c3_5⟩ := LN3_4.out.cells6
                    obtain ⟨f3_0, f3_1, f3_2, f3_3, f3_4, f3_5⟩ := LN3_4.out.free6
                    obtain ⟨c4_0, c4_1, c4_2, c4_3, c4_4, c4_5⟩ := LN4_4.out.cells6
                    obtain ⟨f4_0, f4_1, f4_2, f4_3, f4_4, f4_5⟩ := LN4_4.out.free6
                    go_wp2
                    exact ret_ask (w.heap.size + 1 + 1) 34 _ rfl rfl (LR_4.out.put6 _ _ _ _ _ _) rfl rfl ⟨_, rfl, rfl, kt_zero _, below_put6 BB_4.out (by omega) _ _ _ _ _ _⟩
                  · rw [hg, hu] at HAN
                    rw [if_neg (by simp), if_pos (by simp)] at HAN
                    rw [HAN.out] at HASK
                    rw [HASK.out]
                    rw [hu] at CF CG
                    rw [show (!true) = false from rfl] at CG
                    generalize findK n T (kn N.order N.step true) = fk at *
                    generalize findK n T (kn N.order N.step false) = gk at *
                    clear HAN HASK HFK HGK hh hg hs
                    obtain ⟨kd, e, ol, ls, tk, od, st, un, cd, ky, da⟩ := N
                    dsimp only at hu
                    subst hu
                    unfold RAskPost
                    dsimp only at *
                    generalize ky.length = n1 at *
                    generalize da.length = n2 at *
                    go_enter Try.func15, Try.ntmps15
                    go_wp2_with fail
                    with_reducible refine (CK.out _ HF.out).mono ?_
                    rintro x w1 ⟨rfl, hb⟩
                    have LF_1 := Lib.hid ((Lies.below LF.out hb LF.out.lt))
                    have LN_1 := Lib.hid ((Lies.below LN.out hb LN.out.lt))
                    have LR_1 := Lib.hid ((Lies.below LR.out hb LR.out.lt))
                    have BB_1 := Lib.hid (BB.out.trans (hb.mono BB.out.size))
                    have HF_1 := Lib.hid ((HF.out.below hb))
                    clear hb
                    obtain ⟨c0_0, c0_1⟩ := LF_1.out.cells2
                    obtain ⟨f0_0, f0_1⟩ := LF_1.out.free2
                    obtain ⟨c1_0, c1_1, c1_2, c1_3, c1_4, c1_5, c1_6, c1_7, c1_8, c1_9, c1_10⟩ := LN_1.out.cells11
                    obtain ⟨f1_0, f1_1, f1_2, f1_3, f1_4, f1_5, f1_6, f1_7, f1_8, f1_9, f1_10⟩ := LN_1.out.free11
                    obtain ⟨c2_0, c2_1, c2_2, c2_3, c2_4, c2_5⟩ := LR_1.out.cells6
                    obtain ⟨f2_0, f2_1, f2_2, f2_3, f2_4, f2_5⟩ := LR_1.out.free6
                    go_wp2_with fail
                    with_reducible refine (CR.out _).mono ?_
                    rintro x w2 ⟨rfl, hb⟩
                    have LF_2 := Lib.hid ((Lies.below LF_1.out hb LF_1.out.lt))
                    have LN_2 := Lib.hid ((Lies.below LN_1.out hb LN_1.out.lt))
                    have LR_2 := Lib.hid ((Lies.below LR_1.out hb LR_1.out.lt))
                    have BB_2 := Lib.hid (BB_1.out.trans (hb.mono BB_1.out.size))
                    have HF_2 := Lib.hid ((HF_1.out.below hb))
                    clear hb
                    clear c0_0 c0_1 f0_0 f0_1 c1_0 c1_1 c1_2 c1_3 c1_4 c1_5 c1_6 c1_7 c1_8 c1_9 c1_10 f1_0 f1_1 f1_2 f1_3 f1_4 f1_5 f1_6 f1_7 f1_8 f1_9 f1_10 c2_0 c2_1 c2_2 c2_3 c2_4 c2_5 f2_0 f2_1 f2_2 f2_3 f2_4 f2_5
                    obtain ⟨c0_0, c0_1⟩ := LF_2.out.cells2
                    obtain ⟨f0_0, f0_1⟩ := LF_2.out.free2
                    obtain ⟨c1_0, c1_1, c1_2, c1_3, c1_4, c1_5, c1_6, c1_7, c1_8, c1_9, c1_10⟩ := LN_2.out.cells11
                    obtain ⟨f1_0, f1_1, f1_2, f1_3, f1_4, f1_5, f1_6, f1_7, f1_8, f1_9, f1_10⟩ := LN_2.out.free11
                    obtain ⟨c2_0, c2_1, c2_2, c2_3, c2_4, c2_5⟩ := LR_2.out.cells6
                    obtain ⟨f2_0, f2_1, f2_2, f2_3, f2_4, f2_5⟩ := LR_2.out.free6
                    go_wp2_with fail
                    with_reducible refine (CF.out _ HF_2.out).mono ?_
                    rintro x w3 ⟨y, rfl, hy, hkt, hb⟩
                    obtain ⟨fA, fd, fB, fe, z1, z2, hBy⟩ := kt_bys hkt
                    have HKTf := Lib.hid hkt
                    have hyk := hy
                    obtain ⟨yk, yK, yD⟩ := y
                    dsimp only at *
                    subst z1 z2 hyk
                    obtain ⟨fo, fs, fu, fa, fc, fr⟩ := yk
                    dsimp only at *
                    obtain ⟨fm, hm1⟩ : ∃ m, fa.length = m := ⟨_, rfl⟩
                    obtain ⟨fk, hm2⟩ : ∃ m, fr.length = m := ⟨_, rfl⟩
                    rw [hm1] at hBy HKTf
                    rw [hm2] at HKTf
                    rw [hm1, hm2]
                    have HBYf := Lib.hid hBy
                    clear hm1 hm2 hkt hy hBy
                    have LF_3 := Lib.hid ((Lies.below LF_2.out hb LF_2.out.lt).alloc (.cells #[.int .u32 (fo : Int), .int .i64 fs, .bool fu, .slice fA fm fd, .int .i64 fc, .slice fB fk fe] 34))
                    have LN_3 := Lib.hid ((Lies.below LN_2.out hb LN_2.out.lt).alloc (.cells #[.int .u32 (fo : Int), .int .i64 fs, .bool fu, .slice fA fm fd, .int .i64 fc, .slice fB fk fe] 34))
                    have LR_3 := Lib.hid ((Lies.below LR_2.out hb LR_2.out.lt).alloc (.cells #[.int .u32 (fo : Int), .int .i64 fs, .bool fu, .slice fA fm fd, .int .i64 fc, .slice fB fk fe] 34))
                    have BB_3 := Lib.hid ((BB_2.out.trans (hb.mono BB_2.out.size)).alloc (BB_2.out.trans (hb.mono BB_2.out.size)).size (.cells #[.int .u32 (fo : Int), .int .i64 fs, .bool fu, .slice fA fm fd, .int .i64 fc, .slice fB fk fe] 34))
                    have HF_3 := Lib.hid ((HF_2.out.below hb).below (below1 _ (.cells #[.int .u32 (fo : Int), .int .i64 fs, .bool fu, .slice fA fm fd, .int .i64 fc, .slice fB fk fe] 34)))
                    have LN3_3 := Lib.hid (Lies.made w3 34 #[.int .u32 (fo : Int), .int .i64 fs, .bool fu, .slice fA fm fd, .int .i64 fc, .slice fB fk fe])
                    clear hb
                    clear c0_0 c0_1 f0_0 f0_1 c1_0 c1_1 c1_2 c1_3 c1_4 c1_5 c1_6 c1_7 c1_8 c1_9 c1_10 f1_0 f1_1 f1_2 f1_3 f1_4 f1_5 f1_6 f1_7 f1_8 f1_9 f1_10 c2_0 c2_1 c2_2 c2_3 c2_4 c2_5 f2_0 f2_1 f2_2 f2_3 f2_4 f2_5
                    obtain ⟨c0_0, c0_1⟩ := LF_3.out.cells2
                    obtain ⟨f0_0, f0_1⟩ := LF_3.out.free2
                    obtain ⟨c1_0, c1_1, c1_2, c1_3, c1_4, c1_5, c1_6, c1_7, c1_8, c1_9, c1_10⟩ := LN_3.out.cells11
                    obtain ⟨f1_0, f1_1, f1_2, f1_3, f1_4, f1_5, f1_6, f1_7, f1_8, f1_9, f1_10⟩ := LN_3.out.free11
                    obtain ⟨c2_0, c2_1, c2_2, c2_3, c2_4, c2_5⟩ := LR_3.out.cells6
                    obtain ⟨f2_0, f2_1, f2_2, f2_3, f2_4, f2_5⟩ := LR_3.out.free6
                    obtain ⟨c3_0, c3_1, c3_2, c3_3, c3_4, c3_5⟩ := LN3_3.out.cells6
                    obtain ⟨f3_0, f3_1, f3_2, f3_3, f3_4, f3_5⟩ := LN3_3.out.free6
                    go_wp2_with fail
                    with_reducible refine (CG.out _ HF_3.out).mono ?_
                    rintro x w4 ⟨y, rfl, hy, hkt, hb⟩
                    obtain ⟨gA, gd, gB, ge, z1, z2, hBy⟩ := kt_bys hkt
                    have HKTg := Lib.hid hkt
                    have hyk := hy
                    obtain ⟨yk, yK, yD⟩ := y
                    dsimp only at *
                    subst z1 z2 hyk
                    obtain ⟨go, gs, gu, ga, gc, gr⟩ := yk
                    dsimp only at *
                    obtain ⟨gm, hm1⟩ : ∃ m, ga.length = m := ⟨_, rfl⟩
                    obtain ⟨gk, hm2⟩ : ∃ m, gr.length = m := ⟨_, rfl⟩
                    rw [hm1] at hBy HKTg
                    rw [hm2] at HKTg
                    rw [hm1, hm2]
                    have HBYg := Lib.hid hBy
                    clear hm1 hm2 hkt hy hBy
                    have LF_4 := Lib.hid ((Lies.below LF_3.out hb LF_3.out.lt).alloc (.cells #[.int .u32 (go : Int), .int .i64 gs, .bool gu, .slice gA gm gd, .int .i64 gc, .slice gB gk ge] 34))
                    have LN_4 := Lib.hid ((Lies.below LN_3.out hb LN_3.out.lt).alloc (.cells #[.int .u32 (go : Int), .int .i64 gs, .bool gu, .slice gA gm gd, .int .i64 gc, .slice gB gk ge] 34))
                    have LR_4 := Lib.hid ((Lies.below LR_3.out hb LR_3.out.lt).alloc (.cells #[.int .u32 (go : Int), .int .i64 gs, .bool gu, .slice gA gm gd, .int .i64 gc, .slice gB gk ge] 34))
                    have LN3_4 := Lib.hid ((Lies.below LN3_3.out hb LN3_3.out.lt).alloc (.cells #[.int .u32 (go : Int), .int .i64 gs, .bool gu, .slice gA gm gd, .int .i64 gc, .slice gB gk ge] 34))
                    have BB_4 := Lib.hid ((BB_3.out.trans (hb.mono BB_3.out.size)).alloc (BB_3.out.trans (hb.mono BB_3.out.size)).size (.cells #[.int .u32 (go : Int), .int .i64 gs, .bool gu, .slice gA gm gd, .int .i64 gc, .slice gB gk ge] 34))
                    have HF_4 := Lib.hid ((HF_3.out.below hb).below (below1 _ (.cells #[.int .u32 (go : Int), .int .i64 gs, .bool gu, .slice gA gm gd, .int .i64 gc, .slice gB gk ge] 34)))
                    have LN4_4 := Lib.hid (Lies.made w4 34 #[.int .u32 (go : Int), .int .i64 gs, .bool gu, .slice gA gm gd, .int .i64 gc, .slice gB gk ge])
                    clear hb
                    clear c0_0 c0_1 f0_0 f0_1 c1_0 c1_1 c1_2 c1_3 c1_4 c1_5 c1_6 c1_7 c1_8 c1_9 c1_10 f1_0 f1_1 f1_2 f1_3 f1_4 f1_5 f1_6 f1_7 f1_8 f1_9 f1_10 c2_0 c2_1 c2_2 c2_3 c2_4 c2_5 f2_0 f2_1 f2_2 f2_3 f2_4 f2_5 c3_0 c3_1 c3_2 c3_3 c3_4 c3_5 f3_0 f3_1 f3_2 f3_3 f3_4 f3_5
                    obtain ⟨c0_0, c0_1⟩ := LF_4.out.cells2
                    obtain ⟨f0_0, f0_1⟩ := LF_4.out.free2
                    obtain ⟨c1_0, c1_1, c1_2, c1_3, c1_4, c1_5, c1_6, c1_7, c1_8, c1_9, c1_10⟩ := LN_4.out.cells11
                    obtain ⟨f1_0, f1_1, f1_2, f1_3, f1_4, f1_5, f1_6, f1_7, f1_8, f1_9, f1_10⟩ := LN_4.out.free11
                    obtain ⟨c2_0, c2_1, c2_2, c2_3, c2_4, c2_5⟩ := LR_4.out.cells6
                    obtain ⟨f2_0, f2_1, f2_2, f2_3, f2_4, f2_5⟩ := LR_4.out.free6
                    obtain ⟨c3_0, c3_1, c3_2, c3_3, c3_4, c3_5⟩ := LN3_4.out.cells6
                    obtain ⟨f3_0, f3_1, f3_2, f3_3, f3_4, f3_5⟩ := LN3_4.out.free6
                    obtain ⟨c4_0, c4_1, c4_2, c4_3, c4_4, c4_5⟩ := LN4_4.out.cells6
                    obtain ⟨f4_0, f4_1, f4_2, f4_3, f4_4, f4_5⟩ := LN4_4.out.free6
                    go_wp2
                    exact ret_ask (w.heap.size + 1 + 1) 34 _ rfl rfl (LR_4.out.put6 _ _ _ _ _ _) rfl rfl ⟨_, rfl, rfl, kt_zero _, below_put6 BB_4.out (by omega) _ _ _ _ _ _⟩
                · rw [hg] at CG
                  have HGE := HGK.out hg
                  cases hu : N.undo
                  · rw [hg, hu] at HAN
                    rw [if_pos (by simp)] at HAN
                    rw [HAN.out] at HASK
                    rw [HASK.out]
                    rw [hu] at CF CG
                    rw [show (!false) = true from rfl] at CG
                    clear HGE
                    generalize findK n T (kn N.order N.step false) = fk at *
                    generalize findK n T (kn N.order N.step true) = gk at *
                    clear HAN HASK HFK HGK hh hg hs
                    obtain ⟨kd, e, ol, ls, tk, od, st, un, cd, ky, da⟩ := N
                    dsimp only at hu
                    subst hu
                    unfold RAskPost
                    dsimp only at *
                    generalize ky.length = n1 at *
                    generalize da.length = n2 at *
                    go_enter Try.func15, Try.ntmps15
                    go_wp2_with fail
                    with_reducible refine (CK.out _ HF.out).mono ?_
                    rintro x w1 ⟨rfl, hb⟩
                    have LF_1 := Lib.hid ((Lies.below LF.out hb LF.out.lt))
                    have LN_1 := Lib.hid ((Lies.below LN.out hb LN.out.lt))
                    have LR_1 := Lib.hid ((Lies.below LR.out hb LR.out.lt))
                    have BB_1 := Lib.hid (BB.out.trans (hb.mono BB.out.size))
                    have HF_1 := Lib.hid ((HF.out.below hb))
                    clear hb
                    obtain ⟨c0_0, c0_1⟩ := LF_1.out.cells2
                    obtain ⟨f0_0, f0_1⟩ := LF_1.out.free2
                    obtain ⟨c1_0, c1_1, c1_2, c1_3, c1_4, c1_5, c1_6, c1_7, c1_8, c1_9, c1_10⟩ := LN_1.out.cells11
                    obtain ⟨f1_0, f1_1, f1_2, f1_3, f1_4, f1_5, f1_6, f1_7, f1_8, f1_9, f1_10⟩ := LN_1.out.free11
                    obtain ⟨c2_0, c2_1, c2_2, c2_3, c2_4, c2_5⟩ := LR_1.out.cells6
                    obtain ⟨f2_0, f2_1, f2_2, f2_3, f2_4, f2_5⟩ := LR_1.out.free6
                    go_wp2_with fail
                    with_reducible refine (CR.out _).mono ?_
                    rintro x w2 ⟨rfl, hb⟩
                    have LF_2 := Lib.hid ((Lies.below LF_1.out hb LF_1.out.lt))
                    have LN_2 := Lib.hid ((Lies.below LN_1.out hb LN_1.out.lt))
                    have LR_2 := Lib.hid ((Lies.below LR_1.out hb LR_1.out.lt))
                    have BB_2 := Lib.hid (BB_1.out.trans (hb.mono BB_1.out.size))
                    have HF_2 := Lib.hid ((HF_1.out.below hb))
                    clear hb
                    clear c0_0 c0_1 f0_0 f0_1 c1_0 c1_1 c1_2 c1_3 c1_4 c1_5 c1_6 c1_7 c1_8 c1_9 c1_10 f1_0 f1_1 f1_2 f1_3 f1_4 f1_5 f1_6 f1_7 f1_8 f1_9 f1_10 c2_0 c2_1 c2_2 c2_3 c2_4 c2_5 f2_0 f2_1 f2_2 f2_3 f2_4 f2_5
                    obtain ⟨c0_0, c0_1⟩ := LF_2.out.cells2
                    obtain ⟨f0_0, f0_1⟩ := LF_2.out.free2
                    obtain ⟨c1_0, c1_1, c1_2, c1_3, c1_4, c1_5, c1_6, c1_7, c1_8, c1_9, c1_10⟩ := LN_2.out.cells11
                    obtain ⟨f1_0, f1_1, f1_2, f1_3, f1_4, f1_5, f1_6, f1_7, f1_8, f1_9, f1_10⟩ := LN_2.out.free11
                    obtain ⟨c2_0, c2_1, c2_2, c2_3, c2_4, c2_5⟩ := LR_2.out.cells6
                    obtain ⟨f2_0, f2_1, f2_2, f2_3, f2_4, f2_5⟩ := LR_2.out.free6
                    go_wp2_with fail
                    with_reducible refine (CF.out _ HF_2.out).mono ?_
                    rintro x w3 ⟨y, rfl, hy, hkt, hb⟩
                    obtain ⟨fA, fd, fB, fe, z1, z2, hBy⟩ := kt_bys hkt
                    have HKTf := Lib.hid hkt
                    have hyk := hy
                    obtain ⟨yk, yK, yD⟩ := y
                    dsimp only at *
                    subst z1 z2 hyk
                    obtain ⟨fo, fs, fu, fa, fc, fr⟩ := yk
                    dsimp only at *
                    obtain ⟨fm, hm1⟩ : ∃ m, fa.length = m := ⟨_, rfl⟩
                    obtain ⟨fk, hm2⟩ : ∃ m, fr.length = m := ⟨_, rfl⟩
                    rw [hm1] at hBy HKTf
                    rw [hm2] at HKTf
                    rw [hm1, hm2]
                    have HBYf := Lib.hid hBy
                    clear hm1 hm2 hkt hy hBy
                    have LF_3 := Lib.hid ((Lies.below LF_2.out hb LF_2.out.lt).alloc (.cells #[.int .u32 (fo : Int), .int .i64 fs, .bool fu, .slice fA fm fd, .int .i64 fc, .slice fB fk fe] 34))
                    have LN_3 := Lib.hid ((Lies.below LN_2.out hb LN_2.out.lt).alloc (.cells #[.int .u32 (fo : Int), .int .i64 fs, .bool fu, .slice fA fm fd, .int .i64 fc, .slice fB fk fe] 34))
                    have LR_3 := Lib.hid ((Lies.below LR_2.out hb LR_2.out.lt).alloc (.cells #[.int .u32 (fo : Int), .int .i64 fs, .bool fu, .slice fA fm fd, .int .i64 fc, .slice fB fk fe] 34))
                    have BB_3 := Lib.hid ((BB_2.out.trans (hb.mono BB_2.out.size)).alloc (BB_2.out.trans (hb.mono BB_2.out.size)).size (.cells #[.int .u32 (fo : Int), .int .i64 fs, .bool fu, .slice fA fm fd, .int .i64 fc, .slice fB fk fe] 34))
                    have HF_3 := Lib.hid ((HF_2.out.below hb).below (below1 _ (.cells #[.int .u32 (fo : Int), .int .i64 fs, .bool fu, .slice fA fm fd, .int .i64 fc, .slice fB fk fe] 34)))
                    have LN3_3 := Lib.hid (Lies.made w3 34 #[.int .u32 (fo : Int), .int .i64 fs, .bool fu, .slice fA fm fd, .int .i64 fc, .slice fB fk fe])
                    clear hb
                    clear c0_0 c0_1 f0_0 f0_1 c1_0 c1_1 c1_2 c1_3 c1_4 c1_5 c1_6 c1_7 c1_8 c1_9 c1_10 f1_0 f1_1 f1_2 f1_3 f1_4 f1_5 f1_6 f1_7 f1_8 f1_9 f1_10 c2_0 c2_1 c2_2 c2_3 c2_4 c2_5 f2_0 f2_1 f2_2 f2_3 f2_4 f2_5
                    obtain ⟨c0_0, c0_1⟩ := LF_3.out.cells2
                    obtain ⟨f0_0, f0_1⟩ := LF_3.out.free2
                    obtain ⟨c1_0, c1_1, c1_2, c1_3, c1_4, c1_5, c1_6, c1_7, c1_8, c1_9, c1_10⟩ := LN_3.out.cells11
                    obtain ⟨f1_0, f1_1, f1_2, f1_3, f1_4, f1_5, f1_6, f1_7, f1_8, f1_9, f1_10⟩ := LN_3.out.free11
                    obtain ⟨c2_0, c2_1, c2_2, c2_3, c2_4, c2_5⟩ := LR_3.out.cells6
                    obtain ⟨f2_0, f2_1, f2_2, f2_3, f2_4, f2_5⟩ := LR_3.out.free6
                    obtain ⟨c3_0, c3_1, c3_2, c3_3, c3_4, c3_5⟩ := LN3_3.out.cells6
                    obtain ⟨f3_0, f3_1, f3_2, f3_3, f3_4, f3_5⟩ := LN3_3.out.free6
                    go_wp2_with fail
                    with_reducible refine (CG.out _ HF_3.out).mono ?_
                    rintro x w4 ⟨y, rfl, hy, hkt, hb⟩
                    obtain ⟨gA, gd, gB, ge, z1, z2, hBy⟩ := kt_bys hkt
                    have HKTg := Lib.hid hkt
                    have hyk := hy
                    obtain ⟨yk, yK, yD⟩ := y
                    dsimp only at *
                    subst z1 z2 hyk
                    obtain ⟨go, gs, gu, ga, gc, gr⟩ := yk
                    dsimp only at *
                    obtain ⟨gm, hm1⟩ : ∃ m, ga.length = m := ⟨_, rfl⟩
                    obtain ⟨gk, hm2⟩ : ∃ m, gr.length = m := ⟨_, rfl⟩
                    rw [hm1] at hBy HKTg
                    rw [hm2] at HKTg
                    rw [hm1, hm2]
                    have HBYg := Lib.hid hBy
                    clear hm1 hm2 hkt hy hBy
                    have LF_4 := Lib.hid ((Lies.below LF_3.out hb LF_3.out.lt).alloc (.cells #[.int .u32 (go : Int), .int .i64 gs, .bool gu, .slice gA gm gd, .int .i64 gc, .slice gB gk ge] 34))
                    have LN_4 := Lib.hid ((Lies.below LN_3.out hb LN_3.out.lt).alloc (.cells #[.int .u32 (go : Int), .int .i64 gs, .bool gu, .slice gA gm gd, .int .i64 gc, .slice gB gk ge] 34))
                    have LR_4 := Lib.hid ((Lies.below LR_3.out hb LR_3.out.lt).alloc (.cells #[.int .u32 (go : Int), .int .i64 gs, .bool gu, .slice gA gm gd, .int .i64 gc, .slice gB gk ge] 34))
                    have LN3_4 := Lib.hid ((Lies.below LN3_3.out hb LN3_3.out.lt).alloc (.cells #[.int .u32 (go : Int), .int .i64 gs, .bool gu, .slice gA gm gd, .int .i64 gc, .slice gB gk ge] 34))
                    have BB_4 := Lib.hid ((BB_3.out.trans (hb.mono BB_3.out.size)).alloc (BB_3.out.trans (hb.mono BB_3.out.size)).size (.cells #[.int .u32 (go : Int), .int .i64 gs, .bool gu, .slice gA gm gd, .int .i64 gc, .slice gB gk ge] 34))
                    have HF_4 := Lib.hid ((HF_3.out.below hb).below (below1 _ (.cells #[.int .u32 (go : Int), .int .i64 gs, .bool gu, .slice gA gm gd, .int .i64 gc, .slice gB gk ge] 34)))
                    have LN4_4 := Lib.hid (Lies.made w4 34 #[.int .u32 (go : Int), .int .i64 gs, .bool gu, .slice gA gm gd, .int .i64 gc, .slice gB gk ge])
                    clear hb
                    clear c0_0 c0_1 f0_0 f0_1 c1_0 c1_1 c1_2 c1_3 c1_4 c1_5 c1_6 c1_7 c1_8 c1_9 c1_10 f1_0 f1_1 f1_2 f1_3 f1_4 f1_5 f1_6 f1_7 f1_8 f1_9 f1_10 c2_0 c2_1 c2_2 c2_3 c2_4 c2_5 f2_0 f2_1 f2_2 f2_3 f2_4 f2_5 c3_0 c3_1 c3_2 c3_3 c3_4 c3_5 f3_0 f3_1 f3_2 f3_3 f3_4 f3_5
                    obtain ⟨c0_0, c0_1⟩ := LF_4.out.cells2
                    obtain ⟨f0_0, f0_1⟩ := LF_4.out.free2
                    obtain ⟨c1_0, c1_1, c1_2, c1_3, c1_4, c1_5, c1_6, c1_7, c1_8, c1_9, c1_10⟩ := LN_4.out.cells11
                    obtain ⟨f1_0, f1_1, f1_2, f1_3, f1_4, f1_5, f1_6, f1_7, f1_8, f1_9, f1_10⟩ := LN_4.out.free11
                    obtain ⟨c2_0, c2_1, c2_2, c2_3, c2_4, c2_5⟩ := LR_4.out.cells6
                    obtain ⟨f2_0, f2_1, f2_2, f2_3, f2_4, f2_5⟩ := LR_4.out.free6
                    obtain ⟨c3_0, c3_1, c3_2, c3_3, c3_4, c3_5⟩ := LN3_4.out.cells6
                    obtain ⟨f3_0, f3_1, f3_2, f3_3, f3_4, f3_5⟩ := LN3_4.out.free6
                    obtain ⟨c4_0, c4_1, c4_2, c4_3, c4_4, c4_5⟩ := LN4_4.out.cells6
                    obtain ⟨f4_0, f4_1, f4_2, f4_3, f4_4, f4_5⟩ := LN4_4.out.free6
                    go_wp2
                    exact ret_ask (w.heap.size + 1 + 1) 34 _ rfl rfl (LR_4.out.put6 _ _ _ _ _ _) rfl rfl ⟨_, rfl, rfl, kt_zero _, below_put6 BB_4.out (by omega) _ _ _ _ _ _⟩
                  · by_cases hc : (T (pos T (nk' N) n)).c = 2
                    · rw [hg, hu] at HAN
                      rw [if_neg (by simp), if_pos (by simp [hc])] at HAN
                      rw [HAN.out] at HASK
                      rw [HASK.out]
                      rw [hu] at CF CG
                      rw [show (!true) = false from rfl] at CG
                      rw [← HGE] at hc
                      rw [hu] at hc HGE
                      rw [show (!true) = false from rfl] at hc
                      clear HGE
                      generalize findK n T (kn N.order N.step true) = fk at *
                      generalize findK n T (kn N.order N.step false) = gk at *
                      clear HAN HASK HFK HGK hh hg hs
                      obtain ⟨kd, e, ol, ls, tk, od, st, un, cd, ky, da⟩ := N
                      dsimp only at hu
                      subst hu
                      unfold RAskPost
                      dsimp only at *
                      generalize ky.length = n1 at *
                      generalize da.length = n2 at *
                      go_enter Try.func15, Try.ntmps15
                      go_wp2_with fail
                      with_reducible refine (CK.out _ HF.out).mono ?_
                      rintro x w1 ⟨rfl, hb⟩
                      have LF_1 := Lib.hid ((Lies.below LF.out hb LF.out.lt))
                      have LN_1 := Lib.hid ((Lies.below LN.out hb LN.out.lt))
                      have LR_1 := Lib.hid ((Lies.below LR.out hb LR.out.lt))
                      have BB_1 := Lib.hid (BB.out.trans (hb.mono BB.out.size))
                      have HF_1 := Lib.hid ((HF.out.below hb))
                      clear hb
                      obtain ⟨c0_0, c0_1⟩ := LF_1.out.cells2
                      obtain ⟨f0_0, f0_1⟩ := LF_1.out.free2
                      obtain ⟨c1_0, c1_1, c1_2, c1_3, c1_4, c1_5, c1_6, c1_7, c1_8, c1_9, c1_10⟩ := LN_1.out.cells11
                      obtain ⟨f1_0, f1_1, f1_2, f1_3, f1_4, f1_5, f1_6, f1_7, f1_8, f1_9, f1_10⟩ := LN_1.out.free11
                      obtain ⟨c2_0, c2_1, c2_2, c2_3, c2_4, c2_5⟩ := LR_1.out.cells6
                      obtain ⟨f2_0, f2_1, f2_2, f2_3, f2_4, f2_5⟩ := LR_1.out.free6
                      go_wp2_with fail
                      with_reducible refine (CR.out _).mono ?_
                      rintro x w2 ⟨rfl, hb⟩
                      have LF_2 := Lib.hid ((Lies.below LF_1.out hb LF_1.out.lt))
                      have LN_2 := Lib.hid ((Lies.below LN_1.out hb LN_1.out.lt))
                      have LR_2 := Lib.hid ((Lies.below LR_1.out hb LR_1.out.lt))
                      have BB_2 := Lib.hid (BB_1.out.trans (hb.mono BB_1.out.size))
                      have HF_2 := Lib.hid ((HF_1.out.below hb))
                      clear hb
                      clear c0_0 c0_1 f0_0 f0_1 c1_0 c1_1 c1_2 c1_3 c1_4 c1_5 c1_6 c1_7 c1_8 c1_9 c1_10 f1_0 f1_1 f1_2 f1_3 f1_4 f1_5 f1_6 f1_7 f1_8 f1_9 f1_10 c2_0 c2_1 c2_2 c2_3 c2_4 c2_5 f2_0 f2_1 f2_2 f2_3 f2_4 f2_5
                      obtain ⟨c0_0, c0_1⟩ := LF_2.out.cells2
                      obtain ⟨f0_0, f0_1⟩ := LF_2.out.free2
                      obtain ⟨c1_0, c1_1, c1_2, c1_3, c1_4, c1_5, c1_6, c1_7, c1_8, c1_9, c1_10⟩ := LN_2.out.cells11
                      obtain ⟨f1_0, f1_1, f1_2, f1_3, f1_4, f1_5, f1_6, f1_7, f1_8, f1_9, f1_10⟩ := LN_2.out.free11
                      obtain ⟨c2_0, c2_1, c2_2, c2_3, c2_4, c2_5⟩ := LR_2.out.cells6
                      obtain ⟨f2_0, f2_1, f2_2, f2_3, f2_4, f2_5⟩ := LR_2.out.free6
                      go_wp2_with fail
                      with_reducible refine (CF.out _ HF_2.out).mono ?_
                      rintro x w3 ⟨y, rfl, hy, hkt, hb⟩
                      obtain ⟨fA, fd, fB, fe, z1, z2, hBy⟩ := kt_bys hkt
                      have HKTf := Lib.hid hkt
                      have hyk := hy
                      obtain ⟨yk, yK, yD⟩ := y
                      dsimp only at *
                      subst z1 z2 hyk
                      obtain ⟨fo, fs, fu, fa, fc, fr⟩ := yk
                      dsimp only at *
                      obtain ⟨fm, hm1⟩ : ∃ m, fa.length = m := ⟨_, rfl⟩
                      obtain ⟨fk, hm2⟩ : ∃ m, fr.length = m := ⟨_, rfl⟩
                      rw [hm1] at hBy HKTf
                      rw [hm2] at HKTf
                      rw [hm1, hm2]
                      have HBYf := Lib.hid hBy
                      clear hm1 hm2 hkt hy hBy
                      have LF_3 := Lib.hid ((Lies.below LF_2.out hb LF_2.out.lt).alloc (.cells #[.int .u32 (fo : Int), .int .i64 fs, .bool fu, .slice fA fm fd, .int .i64 fc, .slice fB fk fe] 34))
                      have LN_3 := Lib.hid ((Lies.below LN_2.out hb LN_2.out.lt).alloc (.cells #[.int .u32 (fo : Int), .int .i64 fs, .bool fu, .slice fA fm fd, .int .i64 fc, .slice fB fk fe] 34))
                      have LR_3 := Lib.hid ((Lies.below LR_2.out hb LR_2.out.lt).alloc (.cells #[.int .u32 (fo : Int), .int .i64 fs, .bool fu, .slice fA fm fd, .int .i64 fc, .slice fB fk fe] 34))
                      have BB_3 := Lib.hid ((BB_2.out.trans (hb.mono BB_2.out.size)).alloc (BB_2.out.trans (hb.mono BB_2.out.size)).size (.cells #[.int .u32 (fo : Int), .int .i64 fs, .bool fu, .slice fA fm fd, .int .i64 fc, .slice fB fk fe] 34))
                      have HF_3 := Lib.hid ((HF_2.out.below hb).below (below1 _ (.cells #[.int .u32 (fo : Int), .int .i64 fs, .bool fu, .slice fA fm fd, .int .i64 fc, .slice fB fk fe] 34)))
                      have LN3_3 := Lib.hid (Lies.made w3 34 #[.int .u32 (fo : Int), .int .i64 fs, .bool fu, .slice fA fm fd, .int .i64 fc, .slice fB fk fe])
                      clear hb
                      clear c0_0 c0_1 f0_0 f0_1 c1_0 c1_1 c1_2 c1_3 c1_4 c1_5 c1_6 c1_7 c1_8 c1_9 c1_10 f1_0 f1_1 f1_2 f1_3 f1_4 f1_5 f1_6 f1_7 f1_8 f1_9 f1_10 c2_0 c2_1 c2_2 c2_3 c2_4 c2_5 f2_0 f2_1 f2_2 f2_3 f2_4 f2_5
                      obtain ⟨c0_0, c0_1⟩ := LF_3.out.cells2
                      obtain ⟨f0_0, f0_1⟩ := LF_3.out.free2
                      obtain ⟨c1_0, c1_1, c1_2, c1_3, c1_4, c1_5, c1_6, c1_7, c1_8, c1_9, c1_10⟩ := LN_3.out.cells11
                      obtain ⟨f1_0, f1_1, f1_2, f1_3, f1_4, f1_5, f1_6, f1_7, f1_8, f1_9, f1_10⟩ := LN_3.out.free11
                      obtain ⟨c2_0, c2_1, c2_2, c2_3, c2_4, c2_5⟩ := LR_3.out.cells6
                      obtain ⟨f2_0, f2_1, f2_2, f2_3, f2_4, f2_5⟩ := LR_3.out.free6
                      obtain ⟨c3_0, c3_1, c3_2, c3_3, c3_4, c3_5⟩ := LN3_3.out.cells6
                      obtain ⟨f3_0, f3_1, f3_2, f3_3, f3_4, f3_5⟩ := LN3_3.out.free6
                      go_wp2_with fail
                      with_reducible refine (CG.out _ HF_3.out).mono ?_
                      rintro x w4 ⟨y, rfl, hy, hkt, hb⟩
                      obtain ⟨gA, gd, gB, ge, z1, z2, hBy⟩ := kt_bys hkt
                      have HKTg := Lib.hid hkt
                      have hyk := hy
                      obtain ⟨yk, yK, yD⟩ := y
                      dsimp only at *
                      subst z1 z2 hyk
                      obtain ⟨go, gs, gu, ga, gc, gr⟩ := yk
                      dsimp only at *
                      obtain ⟨gm, hm1⟩ : ∃ m, ga.length = m := ⟨_, rfl⟩
                      obtain ⟨gk, hm2⟩ : ∃ m, gr.length = m := ⟨_, rfl⟩
                      rw [hm1] at hBy HKTg
                      rw [hm2] at HKTg
                      rw [hm1, hm2]
                      have HBYg := Lib.hid hBy
                      clear hm1 hm2 hkt hy hBy
                      have LF_4 := Lib.hid ((Lies.below LF_3.out hb LF_3.out.lt).alloc (.cells #[.int .u32 (go : Int), .int .i64 gs, .bool gu, .slice gA gm gd, .int .i64 gc, .slice gB gk ge] 34))
                      have LN_4 := Lib.hid ((Lies.below LN_3.out hb LN_3.out.lt).alloc (.cells #[.int .u32 (go : Int), .int .i64 gs, .bool gu, .slice gA gm gd, .int .i64 gc, .slice gB gk ge] 34))
                      have LR_4 := Lib.hid ((Lies.below LR_3.out hb LR_3.out.lt).alloc (.cells #[.int .u32 (go : Int), .int .i64 gs, .bool gu, .slice gA gm gd, .int .i64 gc, .slice gB gk ge] 34))
                      have LN3_4 := Lib.hid ((Lies.below LN3_3.out hb LN3_3.out.lt).alloc (.cells #[.int .u32 (go : Int), .int .i64 gs, .bool gu, .slice gA gm gd, .int .i64 gc, .slice gB gk ge] 34))
                      have BB_4 := Lib.hid ((BB_3.out.trans (hb.mono BB_3.out.size)).alloc (BB_3.out.trans (hb.mono BB_3.out.size)).size (.cells #[.int .u32 (go : Int), .int .i64 gs, .bool gu, .slice gA gm gd, .int .i64 gc, .slice gB gk ge] 34))
                      have HF_4 := Lib.hid ((HF_3.out.below hb).below (below1 _ (.cells #[.int .u32 (go : Int), .int .i64 gs, .bool gu, .slice gA gm gd, .int .i64 gc, .slice gB gk ge] 34)))
                      have LN4_4 := Lib.hid (Lies.made w4 34 #[.int .u32 (go : Int), .int .i64 gs, .bool gu, .slice gA gm gd, .int .i64 gc, .slice gB gk ge])
                      clear hb
                      clear c0_0 c0_1 f0_0 f0_1 c1_0 c1_1 c1_2 c1_3 c1_4 c1_5 c1_6 c1_7 c1_8 c1_9 c1_10 f1_0 f1_1 f1_2 f1_3 f1_4 f1_5 f1_6 f1_7 f1_8 f1_9 f1_10 c2_0 c2_1 c2_2 c2_3 c2_4 c2_5 f2_0 f2_1 f2_2 f2_3 f2_4 f2_5 c3_0 c3_1 c3_2 c3_3 c3_4 c3_5 f3_0 f3_1 f3_2 f3_3 f3_4 f3_5
                      obtain ⟨c0_0, c0_1⟩ := LF_4.out.cells2
                      obtain ⟨f0_0, f0_1⟩ := LF_4.out.free2
                      obtain ⟨c1_0, c1_1, c1_2, c1_3, c1_4, c1_5, c1_6, c1_7, c1_8, c1_9, c1_10⟩ := LN_4.out.cells11
                      obtain ⟨f1_0, f1_1, f1_2, f1_3, f1_4, f1_5, f1_6, f1_7, f1_8, f1_9, f1_10⟩ := LN_4.out.free11
                      obtain ⟨c2_0, c2_1, c2_2, c2_3, c2_4, c2_5⟩ := LR_4.out.cells6
                      obtain ⟨f2_0, f2_1, f2_2, f2_3, f2_4, f2_5⟩ := LR_4.out.free6
                      obtain ⟨c3_0, c3_1, c3_2, c3_3, c3_4, c3_5⟩ := LN3_4.out.cells6
                      obtain ⟨f3_0, f3_1, f3_2, f3_3, f3_4, f3_5⟩ := LN3_4.out.free6
                      obtain ⟨c4_0, c4_1, c4_2, c4_3, c4_4, c4_5⟩ := LN4_4.out.cells6
                      obtain ⟨f4_0, f4_1, f4_2, f4_3, f4_4, f4_5⟩ := LN4_4.out.free6
                      have dq : (gc == 2) = true := by simpa using hc
                      clear hc
                      go_wp2
                      exact ret_ask (w.heap.size + 1 + 1) 34 _ rfl rfl (LR_4.out.put6 _ _ _ _ _ _) rfl rfl ⟨_, rfl, rfl, kt_zero _, below_put6 BB_4.out (by omega) _ _ _ _ _ _⟩
                    · rw [hg, hu] at HAN
                      rw [if_neg (by simp), if_neg (by simp [hc])] at HAN
                      rw [HAN.out] at HASK
                      rw [HASK.out]
                      rw [hu] at CF CG
                      rw [show (!true) = false from rfl] at CG
                      rw [← HGE] at hc
                      rw [hu] at hc HGE
                      rw [show (!true) = false from rfl] at hc
                      clear HGE
                      generalize findK n T (kn N.order N.step true) = fk at *
                      generalize findK n T (kn N.order N.step false) = gk at *
                      clear HAN HASK HFK HGK hh hg hs
                      obtain ⟨kd, e, ol, ls, tk, od, st, un, cd, ky, da⟩ := N
                      dsimp only at hu
                      subst hu
                      unfold RAskPost
                      dsimp only at *
                      generalize ky.length = n1 at *
                      generalize da.length = n2 at *
                      go_enter Try.func15, Try.ntmps15
                      go_wp2_with fail
                      with_reducible refine (CK.out _ HF.out).mono ?_
                      rintro x w1 ⟨rfl, hb⟩
                      have LF_1 := Lib.hid ((Lies.below LF.out hb LF.out.lt))
                      have LN_1 := Lib.hid ((Lies.below LN.out hb LN.out.lt))
                      have LR_1 := Lib.hid ((Lies.below LR.out hb LR.out.lt))
                      have BB_1 := Lib.hid (BB.out.trans (hb.mono BB.out.size))
                      have HF_1 := Lib.hid ((HF.out.below hb))
                      clear hb
                      obtain ⟨c0_0, c0_1⟩ := LF_1.out.cells2
                      obtain ⟨f0_0, f0_1⟩ := LF_1.out.free2
                      obtain ⟨c1_0, c1_1, c1_2, c1_3, c1_4, c1_5, c1_6, c1_7, c1_8, c1_9, c1_10⟩ := LN_1.out.cells11
                      obtain ⟨f1_0, f1_1, f1_2, f1_3, f1_4, f1_5, f1_6, f1_7, f1_8, f1_9, f1_10⟩ := LN_1.out.free11
                      obtain ⟨c2_0, c2_1, c2_2, c2_3, c2_4, c2_5⟩ := LR_1.out.cells6
                      obtain ⟨f2_0, f2_1, f2_2, f2_3, f2_4, f2_5⟩ := LR_1.out.free6
                      go_wp2_with fail
                      with_reducible refine (CR.out _).mono ?_
                      rintro x w2 ⟨rfl, hb⟩
                      have LF_2 := Lib.hid ((Lies.below LF_1.out hb LF_1.out.lt))
                      have LN_2 := Lib.hid ((Lies.below LN_1.out hb LN_1.out.lt))
                      have LR_2 := Lib.hid ((Lies.below LR_1.out hb LR_1.out.lt))
                      have BB_2 := Lib.hid (BB_1.out.trans (hb.mono BB_1.out.size))
                      have HF_2 := Lib.hid ((HF_1.out.below hb))
                      clear hb
                      clear c0_0 c0_1 f0_0 f0_1 c1_0 c1_1 c1_2 c1_3 c1_4 c1_5 c1_6 c1_7 c1_8 c1_9 c1_10 f1_0 f1_1 f1_2 f1_3 f1_4 f1_5 f1_6 f1_7 f1_8 f1_9 f1_10 c2_0 c2_1 c2_2 c2_3 c2_4 c2_5 f2_0 f2_1 f2_2 f2_3 f2_4 f2_5
                      obtain ⟨c0_0, c0_1⟩ := LF_2.out.cells2
                      obtain ⟨f0_0, f0_1⟩ := LF_2.out.free2
                      obtain ⟨c1_0, c1_1, c1_2, c1_3, c1_4, c1_5, c1_6, c1_7, c1_8, c1_9, c1_10⟩ := LN_2.out.cells11
                      obtain ⟨f1_0, f1_1, f1_2, f1_3, f1_4, f1_5, f1_6, f1_7, f1_8, f1_9, f1_10⟩ := LN_2.out.free11
                      obtain ⟨c2_0, c2_1, c2_2, c2_3, c2_4, c2_5⟩ := LR_2.out.cells6
                      obtain ⟨f2_0, f2_1, f2_2, f2_3, f2_4, f2_5⟩ := LR_2.out.free6
                      go_wp2_with fail
                      with_reducible refine (CF.out _ HF_2.out).mono ?_
                      rintro x w3 ⟨y, rfl, hy, hkt, hb⟩
                      obtain ⟨fA, fd, fB, fe, z1, z2, hBy⟩ := kt_bys hkt
                      have HKTf := Lib.hid hkt
                      have hyk := hy
                      obtain ⟨yk, yK, yD⟩ := y
                      dsimp only at *
                      subst z1 z2 hyk
                      obtain ⟨fo, fs, fu, fa, fc, fr⟩ := yk
                      dsimp only at *
                      obtain ⟨fm, hm1⟩ : ∃ m, fa.length = m := ⟨_, rfl⟩
                      obtain ⟨fk, hm2⟩ : ∃ m, fr.length = m := ⟨_, rfl⟩
                      rw [hm1] at hBy HKTf
                      rw [hm2] at HKTf
                      rw [hm1, hm2]
                      have HBYf := Lib.hid hBy
                      clear hm1 hm2 hkt hy hBy
                      have LF_3 := Lib.hid ((Lies.below LF_2.out hb LF_2.out.lt).alloc (.cells #[.int .u32 (fo : Int), .int .i64 fs, .bool fu, .slice fA fm fd, .int .i64 fc, .slice fB fk fe] 34))
                      have LN_3 := Lib.hid ((Lies.below LN_2.out hb LN_2.out.lt).alloc (.cells #[.int .u32 (fo : Int), .int .i64 fs, .bool fu, .slice fA fm fd, .int .i64 fc, .slice fB fk fe] 34))
                      have LR_3 := Lib.hid ((Lies.below LR_2.out hb LR_2.out.lt).alloc (.cells #[.int .u32 (fo : Int), .int .i64 fs, .bool fu, .slice fA fm fd, .int .i64 fc, .slice fB fk fe] 34))
                      have BB_3 := Lib.hid ((BB_2.out.trans (hb.mono BB_2.out.size)).alloc (BB_2.out.trans (hb.mono BB_2.out.size)).size (.cells #[.int .u32 (fo : Int), .int .i64 fs, .bool fu, .slice fA fm fd, .int .i64 fc, .slice fB fk fe] 34))
                      have HF_3 := Lib.hid ((HF_2.out.below hb).below (below1 _ (.cells #[.int .u32 (fo : Int), .int .i64 fs, .bool fu, .slice fA fm fd, .int .i64 fc, .slice fB fk fe] 34)))
                      have LN3_3 := Lib.hid (Lies.made w3 34 #[.int .u32 (fo : Int), .int .i64 fs, .bool fu, .slice fA fm fd, .int .i64 fc, .slice fB fk fe])
                      clear hb
                      clear c0_0 c0_1 f0_0 f0_1 c1_0 c1_1 c1_2 c1_3 c1_4 c1_5 c1_6 c1_7 c1_8 c1_9 c1_10 f1_0 f1_1 f1_2 f1_3 f1_4 f1_5 f1_6 f1_7 f1_8 f1_9 f1_10 c2_0 c2_1 c2_2 c2_3 c2_4 c2_5 f2_0 f2_1 f2_2 f2_3 f2_4 f2_5
                      obtain ⟨c0_0, c0_1⟩ := LF_3.out.cells2
                      obtain ⟨f0_0, f0_1⟩ := LF_3.out.free2
                      obtain ⟨c1_0, c1_1, c1_2, c1_3, c1_4, c1_5, c1_6, c1_7, c1_8, c1_9, c1_10⟩ := LN_3.out.cells11
                      obtain ⟨f1_0, f1_1, f1_2, f1_3, f1_4, f1_5, f1_6, f1_7, f1_8, f1_9, f1_10⟩ := LN_3.out.free11
                      obtain ⟨c2_0, c2_1, c2_2, c2_3, c2_4, c2_5⟩ := LR_3.out.cells6
                      obtain ⟨f2_0, f2_1, f2_2, f2_3, f2_4, f2_5⟩ := LR_3.out.free6
                      obtain ⟨c3_0, c3_1, c3_2, c3_3, c3_4, c3_5⟩ := LN3_3.out.cells6
                      obtain ⟨f3_0, f3_1, f3_2, f3_3, f3_4, f3_5⟩ := LN3_3.out.free6
                      go_wp2_with fail
                      with_reducible refine (CG.out _ HF_3.out).mono ?_
                      rintro x w4 ⟨y, rfl, hy, hkt, hb⟩
                      obtain ⟨gA, gd, gB, ge, z1, z2, hBy⟩ := kt_bys hkt
                      have HKTg := Lib.hid hkt
                      have hyk := hy
                      obtain ⟨yk, yK, yD⟩ := y
                      dsimp only at *
                      subst z1 z2 hyk
                      obtain ⟨go, gs, gu, ga, gc, gr⟩ := yk
                      dsimp only at *
                      obtain ⟨gm, hm1⟩ : ∃ m, ga.length = m := ⟨_, rfl⟩
                      obtain ⟨gk, hm2⟩ : ∃ m, gr.length = m := ⟨_, rfl⟩
                      rw [hm1] at hBy HKTg
                      rw [hm2] at HKTg
                      rw [hm1, hm2]
                      have HBYg := Lib.hid hBy
                      clear hm1 hm2 hkt hy hBy
                      have LF_4 := Lib.hid ((Lies.below LF_3.out hb LF_3.out.lt).alloc (.cells #[.int .u32 (go : Int), .int .i64 gs, .bool gu, .slice gA gm gd, .int .i64 gc, .slice gB gk ge] 34))
                      have LN_4 := Lib.hid ((Lies.below LN_3.out hb LN_3.out.lt).alloc (.cells #[.int .u32 (go : Int), .int .i64 gs, .bool gu, .slice gA gm gd, .int .i64 gc, .slice gB gk ge] 34))
                      have LR_4 := Lib.hid ((Lies.below LR_3.out hb LR_3.out.lt).alloc (.cells #[.int .u32 (go : Int), .int .i64 gs, .bool gu, .slice gA gm gd, .int .i64 gc, .slice gB gk ge] 34))
                      have LN3_4 := Lib.hid ((Lies.below LN3_3.out hb LN3_3.out.lt).alloc (.cells #[.int .u32 (go : Int), .int .i64 gs, .bool gu, .slice gA gm gd, .int .i64 gc, .slice gB gk ge] 34))
                      have BB_4 := Lib.hid ((BB_3.out.trans (hb.mono BB_3.out.size)).alloc (BB_3.out.trans (hb.mono BB_3.out.size)).size (.cells #[.int .u32 (go : Int), .int .i64 gs, .bool gu, .slice gA gm gd, .int .i64 gc, .slice gB gk ge] 34))
                      have HF_4 := Lib.hid ((HF_3.out.below hb).below (below1 _ (.cells #[.int .u32 (go : Int), .int .i64 gs, .bool gu, .slice gA gm gd, .int .i64 gc, .slice gB gk ge] 34)))
                      have LN4_4 := Lib.hid (Lies.made w4 34 #[.int .u32 (go : Int), .int .i64 gs, .bool gu, .slice gA gm gd, .int .i64 gc, .slice gB gk ge])
                      clear hb
                      clear c0_0 c0_1 f0_0 f0_1 c1_0 c1_1 c1_2 c1_3 c1_4 c1_5 c1_6 c1_7 c1_8 c1_9 c1_10 f1_0 f1_1 f1_2 f1_3 f1_4 f1_5 f1_6 f1_7 f1_8 f1_9 f1_10 c2_0 c2_1 c2_2 c2_3 c2_4 c2_5 f2_0 f2_1 f2_2 f2_3 f2_4 f2_5 c3_0 c3_1 c3_2 c3_3 c3_4 c3_5 f3_0 f3_1 f3_2 f3_3 f3_4 f3_5
                      obtain ⟨c0_0, c0_1⟩ := LF_4.out.cells2
                      obtain ⟨f0_0, f0_1⟩ := LF_4.out.free2
                      obtain ⟨c1_0, c1_1, c1_2, c1_3, c1_4, c1_5, c1_6, c1_7, c1_8, c1_9, c1_10⟩ := LN_4.out.cells11
                      obtain ⟨f1_0, f1_1, f1_2, f1_3, f1_4, f1_5, f1_6, f1_7, f1_8, f1_9, f1_10⟩ := LN_4.out.free11
                      obtain ⟨c2_0, c2_1, c2_2, c2_3, c2_4, c2_5⟩ := LR_4.out.cells6
                      obtain ⟨f2_0, f2_1, f2_2, f2_3, f2_4, f2_5⟩ := LR_4.out.free6
                      obtain ⟨c3_0, c3_1, c3_2, c3_3, c3_4, c3_5⟩ := LN3_4.out.cells6
                      obtain ⟨f3_0, f3_1, f3_2, f3_3, f3_4, f3_5⟩ := LN3_4.out.free6
                      obtain ⟨c4_0, c4_1, c4_2, c4_3, c4_4, c4_5⟩ := LN4_4.out.cells6
                      obtain ⟨f4_0, f4_1, f4_2, f4_3, f4_4, f4_5⟩ := LN4_4.out.free6
                      have dq : (gc == 2) = false := by simpa using hc
                      clear hc
                      go_wp2
                      exact ret_ask (w.heap.size + 1 + 1) 34 _ rfl rfl (LR_4.out.put6 _ _ _ _ _ _) rfl rfl ⟨_, rfl, rfl, kt_zero _, below_put6 BB_4.out (by omega) _ _ _ _ _ _⟩
              · rw [hh] at CF
                rw [if_pos hh] at HASK
                have HFE := HFK.out hh
                by_cases hd : (T (pos T (nk N) n)).a = N.data
                · rw [if_pos hd, ← HFE] at HASK
                  rw [HASK.out]
                  rw [← HFE] at hd
                  generalize findK n T (kn N.order N.step N.undo) = fk at *
                  generalize findK n T (kn N.order N.step (!N.undo)) = gk at *
                  generalize has n T (nk' N) = hg at *
                  clear HAN HASK HFK HGK hh hs HFE
                  unfold RAskPost
                  obtain ⟨kd, e, ol, ls, tk, od, st, un, cd, ky, da⟩ := N
                  dsimp only at *
                  obtain ⟨n1, hn1⟩ : ∃ m, ky.length = m := ⟨_, rfl⟩
                  obtain ⟨n2, hn2⟩ : ∃ m, da.length = m := ⟨_, rfl⟩
                  rw [hn1, hn2]
                  rw [hn1, hn2] at LF LN LR BB CR HF HD
                  clear hn1 hn2
                  go_enter Try.func15, Try.ntmps15
                  go_wp2_with fail
                  with_reducible refine (CK.out _ HF.out).mono ?_
                  rintro x w1 ⟨rfl, hb⟩
                  have LF_1 := Lib.hid ((Lies.below LF.out hb LF.out.lt))
                  have LN_1 := Lib.hid ((Lies.below LN.out hb LN.out.lt))
                  have LR_1 := Lib.hid ((Lies.below LR.out hb LR.out.lt))
                  have BB_1 := Lib.hid (BB.out.trans (hb.mono BB.out.size))
                  have HF_1 := Lib.hid ((HF.out.below hb))
                  have HD_1 := Lib.hid ((HD.out.belowD hb))
                  clear hb
                  obtain ⟨c0_0, c0_1⟩ := LF_1.out.cells2
                  obtain ⟨f0_0, f0_1⟩ := LF_1.out.free2
                  obtain ⟨c1_0, c1_1, c1_2, c1_3, c1_4, c1_5, c1_6, c1_7, c1_8, c1_9, c1_10⟩ := LN_1.out.cells11
                  obtain ⟨f1_0, f1_1, f1_2, f1_3, f1_4, f1_5, f1_6, f1_7, f1_8, f1_9, f1_10⟩ := LN_1.out.free11
                  obtain ⟨c2_0, c2_1, c2_2, c2_3, c2_4, c2_5⟩ := LR_1.out.cells6
                  obtain ⟨f2_0, f2_1, f2_2, f2_3, f2_4, f2_5⟩ := LR_1.out.free6
                  go_wp2_with fail
                  with_reducible refine (CR.out _).mono ?_
                  rintro x w2 ⟨rfl, hb⟩
                  have LF_2 := Lib.hid ((Lies.below LF_1.out hb LF_1.out.lt))
                  have LN_2 := Lib.hid ((Lies.below LN_1.out hb LN_1.out.lt))
                  have LR_2 := Lib.hid ((Lies.below LR_1.out hb LR_1.out.lt))
                  have BB_2 := Lib.hid (BB_1.out.trans (hb.mono BB_1.out.size))
                  have HF_2 := Lib.hid ((HF_1.out.below hb))
                  have HD_2 := Lib.hid ((HD_1.out.belowD hb))
                  clear hb
                  clear c0_0 c0_1 f0_0 f0_1 c1_0 c1_1 c1_2 c1_3 c1_4 c1_5 c1_6 c1_7 c1_8 c1_9 c1_10 f1_0 f1_1 f1_2 f1_3 f1_4 f1_5 f1_6 f1_7 f1_8 f1_9 f1_10 c2_0 c2_1 c2_2 c2_3 c2_4 c2_5 f2_0 f2_1 f2_2 f2_3 f2_4 f2_5
                  obtain ⟨c0_0, c0_1⟩ := LF_2.out.cells2
                  obtain ⟨f0_0, f0_1⟩ := LF_2.out.free2
                  obtain ⟨c1_0, c1_1, c1_2, c1_3, c1_4, c1_5, c1_6, c1_7, c1_8, c1_9, c1_10⟩ := LN_2.out.cells11
                  obtain ⟨f1_0, f1_1, f1_2, f1_3, f1_4, f1_5, f1_6, f1_7, f1_8, f1_9, f1_10⟩ := LN_2.out.free11
                  obtain ⟨c2_0, c2_1, c2_2, c2_3, c2_4, c2_5⟩ := LR_2.out.cells6
                  obtain ⟨f2_0, f2_1, f2_2, f2_3, f2_4, f2_5⟩ := LR_2.out.free6
                  go_wp2_with fail
                  with_reducible refine (CF.out _ HF_2.out).mono ?_
                  rintro x w3 ⟨y, rfl, hy, hkt, hb⟩
                  have HLT := Lib.hid (Nat.lt_of_lt_of_le LR_2.out.lt hb.size)
                  obtain ⟨fA, fd, fB, fe, z1, z2, hBy⟩ := kt_bys hkt
                  have HKTf := Lib.hid hkt
                  have hyk := hy
                  obtain ⟨yk, yK, yD⟩ := y
                  dsimp only at *
                  subst z1 z2 hyk
                  obtain ⟨fo, fs, fu, fa, fc, fr⟩ := yk
                  dsimp only at *
                  obtain ⟨fm, hm1⟩ : ∃ m, fa.length = m := ⟨_, rfl⟩
                  obtain ⟨fk, hm2⟩ : ∃ m, fr.length = m := ⟨_, rfl⟩
                  rw [hm1] at hBy HKTf
                  rw [hm2] at HKTf
                  rw [hm1, hm2]
                  have HBYf := Lib.hid hBy
                  clear hm1 hm2 hkt hy hBy
                  have LF_3 := Lib.hid ((Lies.below LF_2.out hb LF_2.out.lt).alloc (.cells #[.int .u32 (fo : Int), .int .i64 fs, .bool fu, .slice fA fm fd, .int .i64 fc, .slice fB fk fe] 34))
                  have LN_3 := Lib.hid ((Lies.below LN_2.out hb LN_2.out.lt).alloc (.cells #[.int .u32 (fo : Int), .int .i64 fs, .bool fu, .slice fA fm fd, .int .i64 fc, .slice fB fk fe] 34))
                  have LR_3 := Lib.hid ((Lies.below LR_2.out hb LR_2.out.lt).alloc (.cells #[.int .u32 (fo : Int), .int .i64 fs, .bool fu, .slice fA fm fd, .int .i64 fc, .slice fB fk fe] 34))
                  have BB_3 := Lib.hid ((BB_2.out.trans (hb.mono BB_2.out.size)).alloc (BB_2.out.trans (hb.mono BB_2.out.size)).size (.cells #[.int .u32 (fo : Int), .int .i64 fs, .bool fu, .slice fA fm fd, .int .i64 fc, .slice fB fk fe] 34))
                  have HF_3 := Lib.hid ((HF_2.out.below hb).below (below1 _ (.cells #[.int .u32 (fo : Int), .int .i64 fs, .bool fu, .slice fA fm fd, .int .i64 fc, .slice fB fk fe] 34)))
                  have HD_3 := Lib.hid ((HD_2.out.belowD hb).below (below1 _ (.cells #[.int .u32 (fo : Int), .int .i64 fs, .bool fu, .slice fA fm fd, .int .i64 fc, .slice fB fk fe] 34)))
                  have LN3_3 := Lib.hid (Lies.made w3 34 #[.int .u32 (fo : Int), .int .i64 fs, .bool fu, .slice fA fm fd, .int .i64 fc, .slice fB fk fe])
                  clear hb
                  clear c0_0 c0_1 f0_0 f0_1 c1_0 c1_1 c1_2 c1_3 c1_4 c1_5 c1_6 c1_7 c1_8 c1_9 c1_10 f1_0 f1_1 f1_2 f1_3 f1_4 f1_5 f1_6 f1_7 f1_8 f1_9 f1_10 c2_0 c2_1 c2_2 c2_3 c2_4 c2_5 f2_0 f2_1 f2_2 f2_3 f2_4 f2_5
                  obtain ⟨c0_0, c0_1⟩ := LF_3.out.cells2
                  obtain ⟨f0_0, f0_1⟩ := LF_3.out.free2
                  obtain ⟨c1_0, c1_1, c1_2, c1_3, c1_4, c1_5, c1_6, c1_7, c1_8, c1_9, c1_10⟩ := LN_3.out.cells11
                  obtain ⟨f1_0, f1_1, f1_2, f1_3, f1_4, f1_5, f1_6, f1_7, f1_8, f1_9, f1_10⟩ := LN_3.out.free11
                  obtain ⟨c2_0, c2_1, c2_2, c2_3, c2_4, c2_5⟩ := LR_3.out.cells6
                  obtain ⟨f2_0, f2_1, f2_2, f2_3, f2_4, f2_5⟩ := LR_3.out.free6
                  obtain ⟨c3_0, c3_1, c3_2, c3_3, c3_4, c3_5⟩ := LN3_3.out.cells6
                  obtain ⟨f3_0, f3_1, f3_2, f3_3, f3_4, f3_5⟩ := LN3_3.out.free6
                  have HKTf3 := Lib.hid (HKTf.out.below (below1 w3 (.cells #[.int .u32 (fo : Int), .int .i64 fs, .bool fu, .slice fA fm fd, .int .i64 fc, .slice fB fk fe] 34)))
                  have HBY3 := Lib.hid (HBYf.out.alloc (.cells #[.int .u32 (fo : Int), .int .i64 fs, .bool fu, .slice fA fm fd, .int .i64 fc, .slice fB fk fe] 34))
                  go_wp2_with fail
                  with_reducible refine (CG.out _ HF_3.out).mono ?_
                  rintro x w4 ⟨y, rfl, hy, hkt, hb⟩
                  obtain ⟨gA, gd, gB, ge, z1, z2, hBy⟩ := kt_bys hkt
                  have HKTg := Lib.hid hkt
                  have hyk := hy
                  obtain ⟨yk, yK, yD⟩ := y
                  dsimp only at *
                  subst z1 z2 hyk
                  obtain ⟨go, gs, gu, ga, gc, gr⟩ := yk
                  dsimp only at *
                  obtain ⟨gm, hm1⟩ : ∃ m, ga.length = m := ⟨_, rfl⟩
                  obtain ⟨gk, hm2⟩ : ∃ m, gr.length = m := ⟨_, rfl⟩
                  rw [hm1] at hBy HKTg
                  rw [hm2] at HKTg
                  rw [hm1, hm2]
                  have HBYg := Lib.hid hBy
                  clear hm1 hm2 hkt hy hBy
                  have LF_4 := Lib.hid ((Lies.below LF_3.out hb LF_3.out.lt).alloc (.cells #[.int .u32 (go : Int), .int .i64 gs, .bool gu, .slice gA gm gd, .int .i64 gc, .slice gB gk ge] 34))
                  have LN_4 := Lib.hid ((Lies.below LN_3.out hb LN_3.out.lt).alloc (.cells #[.int .u32 (go : Int), .int .i64 gs, .bool gu, .slice gA gm gd, .int .i64 gc, .slice gB gk ge] 34))
                  have LR_4 := Lib.hid ((Lies.below LR_3.out hb LR_3.out.lt).alloc (.cells #[.int .u32 (go : Int), .int .i64 gs, .bool gu, .slice gA gm gd, .int .i64 gc, .slice gB gk ge] 34))
                  have LN3_4 := Lib.hid ((Lies.below LN3_3.out hb LN3_3.out.lt).alloc (.cells #[.int .u32 (go : Int), .int .i64 gs, .bool gu, .slice gA gm gd, .int .i64 gc, .slice gB gk ge] 34))
                  have BB_4 := Lib.hid ((BB_3.out.trans (hb.mono BB_3.out.size)).alloc (BB_3.out.trans (hb.mono BB_3.out.size)).size (.cells #[.int .u32 (go : Int), .int .i64 gs, .bool gu, .slice gA gm gd, .int .i64 gc, .slice gB gk ge] 34))
                  have HF_4 := Lib.hid ((HF_3.out.below hb).below (below1 _ (.cells #[.int .u32 (go : Int), .int .i64 gs, .bool gu, .slice gA gm gd, .int .i64 gc, .slice gB gk ge] 34)))
                  have HD_4 := Lib.hid ((HD_3.out.belowD hb).below (below1 _ (.cells #[.int .u32 (go : Int), .int .i64 gs, .bool gu, .slice gA gm gd, .int .i64 gc, .slice gB gk ge] 34)))
                  have HKTf3_4 := Lib.hid ((HKTf3.out.below hb).below (below1 _ (.cells #[.int .u32 (go : Int), .int .i64 gs, .bool gu, .slice gA gm gd, .int .i64 gc, .slice gB gk ge] 34)))
                  have HBY3_4 := Lib.hid ((HBY3.out.belowD hb).below (below1 _ (.cells #[.int .u32 (go : Int), .int .i64 gs, .bool gu, .slice gA gm gd, .int .i64 gc, .slice gB gk ge] 34)))
                  have LN4_4 := Lib.hid (Lies.made w4 34 #[.int .u32 (go : Int), .int .i64 gs, .bool gu, .slice gA gm gd, .int .i64 gc, .slice gB gk ge])
                  clear hb
                  clear c0_0 c0_1 f0_0 f0_1 c1_0 c1_1 c1_2 c1_3 c1_4 c1_5 c1_6 c1_7 c1_8 c1_9 c1_10 f1_0 f1_1 f1_2 f1_3 f1_4 f1_5 f1_6 f1_7 f1_8 f1_9 f1_10 c2_0 c2_1 c2_2 c2_3 c2_4 c2_5 f2_0 f2_1 f2_2 f2_3 f2_4 f2_5 c3_0 c3_1 c3_2 c3_3 c3_4 c3_5 f3_0 f3_1 f3_2 f3_3 f3_4 f3_5
                  obtain ⟨c0_0, c0_1⟩ := LF_4.out.cells2
                  obtain ⟨f0_0, f0_1⟩ := LF_4.out.free2
                  obtain ⟨c1_0, c1_1, c1_2, c1_3, c1_4, c1_5, c1_6, c1_7, c1_8, c1_9, c1_10⟩ := LN_4.out.cells11
                  obtain ⟨f1_0, f1_1, f1_2, f1_3, f1_4, f1_5, f1_6, f1_7, f1_8, f1_9, f1_10⟩ := LN_4.out.free11
                  obtain ⟨c2_0, c2_1, c2_2, c2_3, c2_4, c2_5⟩ := LR_4.out.cells6
                  obtain ⟨f2_0, f2_1, f2_2, f2_3, f2_4, f2_5⟩ := LR_4.out.free6
                  obtain ⟨c3_0, c3_1, c3_2, c3_3, c3_4, c3_5⟩ := LN3_4.out.cells6
                  obtain ⟨f3_0, f3_1, f3_2, f3_3, f3_4, f3_5⟩ := LN3_4.out.free6
                  obtain ⟨c4_0, c4_1, c4_2, c4_3, c4_4, c4_5⟩ := LN4_4.out.cells6
                  obtain ⟨f4_0, f4_1, f4_2, f4_3, f4_4, f4_5⟩ := LN4_4.out.free6
                  have r1 := run_str HBY3_4.out fd
                  have r2 := run_str HD_4.out c2
                  have r3 := str_eq fa da HBY3_4.out.2.1 HD_4.out.2.1
                  rw [show sameB fa da = true from by rw [hd]; exact sameB_self _] at r3
                  generalize str fa = Sa at *
                  generalize str da = Sb at *
                  clear hd
                  have r4 : (Sa.toList != Sb.toList) = false := by rw [bne, r3]; rfl
                  go_wp2_with fail
                  have hne : w.heap.size + 1 + 1 ≠ w3.heap.size := Nat.ne_of_lt HLT.out
                  go_region_held3 (fun W => W.cell? ⟨w3.heap.size, 0, none⟩ = some (.int .u32 (fo : Int)) ∧ W.cell? ⟨w3.heap.size, 1, none⟩ = some (.int .i64 fs) ∧ W.cell? ⟨w3.heap.size, 2, none⟩ = some (.bool fu) ∧ W.cell? ⟨w3.heap.size, 3, none⟩ = some (.slice fA fm fd) ∧ W.cell? ⟨w3.heap.size, 4, none⟩ = some (.int .i64 fc) ∧ W.cell? ⟨w3.heap.size, 5, none⟩ = some (.slice fB fk fe)) (first | go_keep) (fail)
                  go_wp2
                  refine ret_ask (w.heap.size + 1 + 1) 34 _ rfl rfl (Lies.drew (Lies.put6 LR_4.out _ _ _ _ _ _)) rfl rfl ⟨⟨⟨fo, fs, fu, fa, fc, fr⟩, .slice fA fm fd, .slice fB fk fe⟩, rfl, rfl, ?_, (below_put6 BB_4.out (by omega) _ _ _ _ _ _).drew⟩
                  exact (KT.put6 HKTf3_4.out LR_4.out _ _ _ _ _ _).drew
                · rw [if_neg hd] at HASK
                  rw [HASK.out]
                  rw [← HFE] at hd
                  generalize findK n T (kn N.order N.step N.undo) = fk at *
                  generalize findK n T (kn N.order N.step (!N.undo)) = gk at *
                  generalize has n T (nk' N) = hg at *
                  clear HAN HASK HFK HGK hh hs HFE
                  unfold RAskPost
                  obtain ⟨kd, e, ol, ls, tk, od, st, un, cd, ky, da⟩ := N
                  dsimp only at *
                  obtain ⟨n1, hn1⟩ : ∃ m, ky.length = m := ⟨_, rfl⟩
                  obtain ⟨n2, hn2⟩ : ∃ m, da.length = m := ⟨_, rfl⟩
                  rw [hn1, hn2]
                  rw [hn1, hn2] at LF LN LR BB CR HF HD
                  clear hn1 hn2
                  go_enter Try.func15, Try.ntmps15
                  go_wp2_with fail
                  with_reducible refine (CK.out _ HF.out).mono ?_
                  rintro x w1 ⟨rfl, hb⟩
                  have LF_1 := Lib.hid ((Lies.below LF.out hb LF.out.lt))
                  have LN_1 := Lib.hid ((Lies.below LN.out hb LN.out.lt))
                  have LR_1 := Lib.hid ((Lies.below LR.out hb LR.out.lt))
                  have BB_1 := Lib.hid (BB.out.trans (hb.mono BB.out.size))
                  have HF_1 := Lib.hid ((HF.out.below hb))
                  have HD_1 := Lib.hid ((HD.out.belowD hb))
                  clear hb
                  obtain ⟨c0_0, c0_1⟩ := LF_1.out.cells2
                  obtain ⟨f0_0, f0_1⟩ := LF_1.out.free2
                  obtain ⟨c1_0, c1_1, c1_2, c1_3, c1_4, c1_5, c1_6, c1_7, c1_8, c1_9, c1_10⟩ := LN_1.out.cells11
                  obtain ⟨f1_0, f1_1, f1_2, f1_3, f1_4, f1_5, f1_6, f1_7, f1_8, f1_9, f1_10⟩ := LN_1.out.free11
                  obtain ⟨c2_0, c2_1, c2_2, c2_3, c2_4, c2_5⟩ := LR_1.out.cells6
                  obtain ⟨f2_0, f2_1, f2_2, f2_3, f2_4, f2_5⟩ := LR_1.out.free6
                  go_wp2_with fail
                  with_reducible refine (CR.out _).mono ?_
                  rintro x w2 ⟨rfl, hb⟩
                  have LF_2 := Lib.hid ((Lies.below LF_1.out hb LF_1.out.lt))
                  have LN_2 := Lib.hid ((Lies.below LN_1.out hb LN_1.out.lt))
                  have LR_2 := Lib.hid ((Lies.below LR_1.out hb LR_1.out.lt))
                  have BB_2 := Lib.hid (BB_1.out.trans (hb.mono BB_1.out.size))
                  have HF_2 := Lib.hid ((HF_1.out.below hb))
                  have HD_2 := Lib.hid ((HD_1.out.belowD hb))
                  clear hb
                  clear c0_0 c0_1 f0_0 f0_1 c1_0 c1_1 c1_2 c1_3 c1_4 c1_5 c1_6 c1_7 c1_8 c1_9 c1_10 f1_0 f1_1 f1_2 f1_3 f1_4 f1_5 f1_6 f1_7 f1_8 f1_9 f1_10 c2_0 c2_1 c2_2 c2_3 c2_4 c2_5 f2_0 f2_1 f2_2 f2_3 f2_4 f2_5
                  obtain ⟨c0_0, c0_1⟩ := LF_2.out.cells2
                  obtain ⟨f0_0, f0_1⟩ := LF_2.out.free2
                  obtain ⟨c1_0, c1_1, c1_2, c1_3, c1_4, c1_5, c1_6, c1_7, c1_8, c1_9, c1_10⟩ := LN_2.out.cells11
                  obtain ⟨f1_0, f1_1, f1_2, f1_3, f1_4, f1_5, f1_6, f1_7, f1_8, f1_9, f1_10⟩ := LN_2.out.free11
                  obtain ⟨c2_0, c2_1, c2_2, c2_3, c2_4, c2_5⟩ := LR_2.out.cells6
                  obtain ⟨f2_0, f2_1, f2_2, f2_3, f2_4, f2_5⟩ := LR_2.out.free6
                  go_wp2_with fail
                  with_reducible refine (CF.out _ HF_2.out).mono ?_
                  rintro x w3 ⟨y, rfl, hy, hkt, hb⟩
                  have HLT := Lib.hid (Nat.lt_of_lt_of_le LR_2.out.lt hb.size)
                  obtain ⟨fA, fd, fB, fe, z1, z2, hBy⟩ := kt_bys hkt
                  have HKTf := Lib.hid hkt
                  have hyk := hy
                  obtain ⟨yk, yK, yD⟩ := y
                  dsimp only at *
                  subst z1 z2 hyk
                  obtain ⟨fo, fs, fu, fa, fc, fr⟩ := yk
                  dsimp only at *
                  obtain ⟨fm, hm1⟩ : ∃ m, fa.length = m := ⟨_, rfl⟩
                  obtain ⟨fk, hm2⟩ : ∃ m, fr.length = m := ⟨_, rfl⟩
                  rw [hm1] at hBy HKTf
                  rw [hm2] at HKTf
                  rw [hm1, hm2]
                  have HBYf := Lib.hid hBy
                  clear hm1 hm2 hkt hy hBy
                  have LF_3 := Lib.hid ((Lies.below LF_2.out hb LF_2.out.lt).alloc (.cells #[.int .u32 (fo : Int), .int .i64 fs, .bool fu, .slice fA fm fd, .int .i64 fc, .slice fB fk fe] 34))
                  have LN_3 := Lib.hid ((Lies.below LN_2.out hb LN_2.out.lt).alloc (.cells #[.int .u32 (fo : Int), .int .i64 fs, .bool fu, .slice fA fm fd, .int .i64 fc, .slice fB fk fe] 34))
                  have LR_3 := Lib.hid ((Lies.below LR_2.out hb LR_2.out.lt).alloc (.cells #[.int .u32 (fo : Int), .int .i64 fs, .bool fu, .slice fA fm fd, .int .i64 fc, .slice fB fk fe] 34))
                  have BB_3 := Lib.hid ((BB_2.out.trans (hb.mono BB_2.out.size)).alloc (BB_2.out.trans (hb.mono BB_2.out.size)).size (.cells #[.int .u32 (fo : Int), .int .i64 fs, .bool fu, .slice fA fm fd, .int .i64 fc, .slice fB fk fe] 34))
                  have HF_3 := Lib.hid ((HF_2.out.below hb).below (below1 _ (.cells #[.int .u32 (fo : Int), .int .i64 fs, .bool fu, .slice fA fm fd, .int .i64 fc, .slice fB fk fe] 34)))
                  have HD_3 := Lib.hid ((HD_2.out.belowD hb).below (below1 _ (.cells #[.int .u32 (fo : Int), .int .i64 fs, .bool fu, .slice fA fm fd, .int .i64 fc, .slice fB fk fe] 34)))
                  have LN3_3 := Lib.hid (Lies.made w3 34 #[.int .u32 (fo : Int), .int .i64 fs, .bool fu, .slice fA fm fd, .int .i64 fc, .slice fB fk fe])
                  clear hb
                  clear c0_0 c0_1 f0_0 f0_1 c1_0 c1_1 c1_2 c1_3 c1_4 c1_5 c1_6 c1_7 c1_8 c1_9 c1_10 f1_0 f1_1 f1_2 f1_3 f1_4 f1_5 f1_6 f1_7 f1_8 f1_9 f1_10 c2_0 c2_1 c2_2 c2_3 c2_4 c2_5 f2_0 f2_1 f2_2 f2_3 f2_4 f2_5
                  obtain ⟨c0_0, c0_1⟩ := LF_3.out.cells2
                  obtain ⟨f0_0, f0_1⟩ := LF_3.out.free2
                  obtain ⟨c1_0, c1_1, c1_2, c1_3, c1_4, c1_5, c1_6, c1_7, c1_8, c1_9, c1_10⟩ := LN_3.out.cells11
                  obtain ⟨f1_0, f1_1, f1_2, f1_3, f1_4, f1_5, f1_6, f1_7, f1_8, f1_9, f1_10⟩ := LN_3.out.free11
                  obtain ⟨c2_0, c2_1, c2_2, c2_3, c2_4, c2_5⟩ := LR_3.out.cells6
                  obtain ⟨f2_0, f2_1, f2_2, f2_3, f2_4, f2_5⟩ := LR_3.out.free6
                  obtain ⟨c3_0, c3_1, c3_2, c3_3, c3_4, c3_5⟩ := LN3_3.out.cells6
                  obtain ⟨f3_0, f3_1, f3_2, f3_3, f3_4, f3_5⟩ := LN3_3.out.free6
                  have HKTf3 := Lib.hid (HKTf.out.below (below1 w3 (.cells #[.int .u32 (fo : Int), .int .i64 fs, .bool fu, .slice fA fm fd, .int .i64 fc, .slice fB fk fe] 34)))
                  have HBY3 := Lib.hid (HBYf.out.alloc (.cells #[.int .u32 (fo : Int), .int .i64 fs, .bool fu, .slice fA fm fd, .int .i64 fc, .slice fB fk fe] 34))
                  go_wp2_with fail
                  with_reducible refine (CG.out _ HF_3.out).mono ?_
                  rintro x w4 ⟨y, rfl, hy, hkt, hb⟩
                  obtain ⟨gA, gd, gB, ge, z1, z2, hBy⟩ := kt_bys hkt
                  have HKTg := Lib.hid hkt
                  have hyk := hy
                  obtain ⟨yk, yK, yD⟩ := y
                  dsimp only at *
                  subst z1 z2 hyk
                  obtain ⟨go, gs, gu, ga, gc, gr⟩ := yk
                  dsimp only at *
                  obtain ⟨gm, hm1⟩ : ∃ m, ga.length = m := ⟨_, rfl⟩
                  obtain ⟨gk, hm2⟩ : ∃ m, gr.length = m := ⟨_, rfl⟩
                  rw [hm1] at hBy HKTg
                  rw [hm2] at HKTg
                  rw [hm1, hm2]
                  have HBYg := Lib.hid hBy
                  clear hm1 hm2 hkt hy hBy
                  have LF_4 := Lib.hid ((Lies.below LF_3.out hb LF_3.out.lt).alloc (.cells #[.int .u32 (go : Int), .int .i64 gs, .bool gu, .slice gA gm gd, .int .i64 gc, .slice gB gk ge] 34))
                  have LN_4 := Lib.hid ((Lies.below LN_3.out hb LN_3.out.lt).alloc (.cells #[.int .u32 (go : Int), .int .i64 gs, .bool gu, .slice gA gm gd, .int .i64 gc, .slice gB gk ge] 34))
                  have LR_4 := Lib.hid ((Lies.below LR_3.out hb LR_3.out.lt).alloc (.cells #[.int .u32 (go : Int), .int .i64 gs, .bool gu, .slice gA gm gd, .int .i64 gc, .slice gB gk ge] 34))
                  have LN3_4 := Lib.hid ((Lies.below LN3_3.out hb LN3_3.out.lt).alloc (.cells #[.int .u32 (go : Int), .int .i64 gs, .bool gu, .slice gA gm gd, .int .i64 gc, .slice gB gk ge] 34))
                  have BB_4 := Lib.hid ((BB_3.out.trans (hb.mono BB_3.out.size)).alloc (BB_3.out.trans (hb.mono BB_3.out.size)).size (.cells #[.int .u32 (go : Int), .int .i64 gs, .bool gu, .slice gA gm gd, .int .i64 gc, .slice gB gk ge] 34))
                  have HF_4 := Lib.hid ((HF_3.out.below hb).below (below1 _ (.cells #[.int .u32 (go : Int), .int .i64 gs, .bool gu, .slice gA gm gd, .int .i64 gc, .slice gB gk ge] 34)))
                  have HD_4 := Lib.hid ((HD_3.out.belowD hb).below (below1 _ (.cells #[.int .u32 (go : Int), .int .i64 gs, .bool gu, .slice gA gm gd, .int .i64 gc, .slice gB gk ge] 34)))
                  have HKTf3_4 := Lib.hid ((HKTf3.out.below hb).below (below1 _ (.cells #[.int .u32 (go : Int), .int .i64 gs, .bool gu, .slice gA gm gd, .int .i64 gc, .slice gB gk ge] 34)))
                  have HBY3_4 := Lib.hid ((HBY3.out.belowD hb).below (below1 _ (.cells #[.int .u32 (go : Int), .int .i64 gs, .bool gu, .slice gA gm gd, .int .i64 gc, .slice gB gk ge] 34)))
                  have LN4_4 := Lib.hid (Lies.made w4 34 #[.int .u32 (go : Int), .int .i64 gs, .bool gu, .slice gA gm gd, .int .i64 gc, .slice gB gk ge])
                  clear hb
                  clear c0_0 c0_1 f0_0 f0_1 c1_0 c1_1 c1_2 c1_3 c1_4 c1_5 c1_6 c1_7 c1_8 c1_9 c1_10 f1_0 f1_1 f1_2 f1_3 f1_4 f1_5 f1_6 f1_7 f1_8 f1_9 f1_10 c2_0 c2_1 c2_2 c2_3 c2_4 c2_5 f2_0 f2_1 f2_2 f2_3 f2_4 f2_5 c3_0 c3_1 c3_2 c3_3 c3_4 c3_5 f3_0 f3_1 f3_2 f3_3 f3_4 f3_5
                  obtain ⟨c0_0, c0_1⟩ := LF_4.out.cells2
                  obtain ⟨f0_0, f0_1⟩ := LF_4.out.free2
                  obtain ⟨c1_0, c1_1, c1_2, c1_3, c1_4, c1_5, c1_6, c1_7, c1_8, c1_9, c1_10⟩ := LN_4.out.cells11
                  obtain ⟨f1_0, f1_1, f1_2, f1_3, f1_4, f1_5, f1_6, f1_7, f1_8, f1_9, f1_10⟩ := LN_4.out.free11
                  obtain ⟨c2_0, c2_1, c2_2, c2_3, c2_4, c2_5⟩ := LR_4.out.cells6
                  obtain ⟨f2_0, f2_1, f2_2, f2_3, f2_4, f2_5⟩ := LR_4.out.free6
                  obtain ⟨c3_0, c3_1, c3_2, c3_3, c3_4, c3_5⟩ := LN3_4.out.cells6
                  obtain ⟨f3_0, f3_1, f3_2, f3_3, f3_4, f3_5⟩ := LN3_4.out.free6
                  obtain ⟨c4_0, c4_1, c4_2, c4_3, c4_4, c4_5⟩ := LN4_4.out.cells6
                  obtain ⟨f4_0, f4_1, f4_2, f4_3, f4_4, f4_5⟩ := LN4_4.out.free6
                  have r1 := run_str HBY3_4.out fd
                  have r2 := run_str HD_4.out c2
                  have r3 := str_eq fa da HBY3_4.out.2.1 HD_4.out.2.1
                  rw [show sameB fa da = false from sameB_ne hd] at r3
                  generalize str fa = Sa at *
                  generalize str da = Sb at *
                  clear hd
                  have r4 : (Sa.toList != Sb.toList) = true := by rw [bne, r3]; rfl
                  go_wp2
                  exact ret_ask (w.heap.size + 1 + 1) 34 _ rfl rfl (LR_4.out.put6 _ _ _ _ _ _) rfl rfl ⟨_, rfl, rfl, kt_zero _, below_put6 BB_4.out (by omega) _ _ _ _ _ _⟩
      · have d3 : (N.kind != 7) = true := by simpa using h3
        rw [show askS ep n T N = ⟨0, kz, 2⟩ from by unfold askS; rw [if_neg (by rintro ⟨h1, h2⟩; unfold reqB at h2; simp [h3] at h2)]]
        unfold RAskPost
        obtain ⟨kd, e, ol, ls, tk, od, st, un, cd, ky, da⟩ := N
        dsimp only at *
        generalize ky.length = n1 at *
        generalize da.length = n2 at *
        clear hok h2 h3 hN hF hs
        go_enter Try.func15, Try.ntmps15
        go_wp2_with fail
        with_reducible refine (CK.out _ HF.out).mono ?_
        rintro x w1 ⟨rfl, hb⟩
        have LF_1 := Lib.hid ((Lies.below LF.out hb LF.out.lt))
        have LN_1 := Lib.hid ((Lies.below LN.out hb LN.out.lt))
        have LR_1 := Lib.hid ((Lies.below LR.out hb LR.out.lt))
        have BB_1 := Lib.hid (BB.out.trans (hb.mono BB.out.size))
        have HF_1 := Lib.hid ((HF.out.below hb))
        clear hb
        obtain ⟨c0_0, c0_1⟩ := LF_1.out.cells2
        obtain ⟨f0_0, f0_1⟩ := LF_1.out.free2
        obtain ⟨c1_0, c1_1, c1_2, c1_3, c1_4, c1_5, c1_6, c1_7, c1_8, c1_9, c1_10⟩ := LN_1.out.cells11
        obtain ⟨f1_0, f1_1, f1_2, f1_3, f1_4, f1_5, f1_6, f1_7, f1_8, f1_9, f1_10⟩ := LN_1.out.free11
        obtain ⟨c2_0, c2_1, c2_2, c2_3, c2_4, c2_5⟩ := LR_1.out.cells6
        obtain ⟨f2_0, f2_1, f2_2, f2_3, f2_4, f2_5⟩ := LR_1.out.free6
        go_wp2_with fail
        with_reducible refine (CR.out _).mono ?_
        rintro x w2 ⟨rfl, hb⟩
        have LF_2 := Lib.hid ((Lies.below LF_1.out hb LF_1.out.lt))
        have LN_2 := Lib.hid ((Lies.below LN_1.out hb LN_1.out.lt))
        have LR_2 := Lib.hid ((Lies.below LR_1.out hb LR_1.out.lt))
        have BB_2 := Lib.hid (BB_1.out.trans (hb.mono BB_1.out.size))
        have HF_2 := Lib.hid ((HF_1.out.below hb))
        clear hb
        clear c0_0 c0_1 f0_0 f0_1 c1_0 c1_1 c1_2 c1_3 c1_4 c1_5 c1_6 c1_7 c1_8 c1_9 c1_10 f1_0 f1_1 f1_2 f1_3 f1_4 f1_5 f1_6 f1_7 f1_8 f1_9 f1_10 c2_0 c2_1 c2_2 c2_3 c2_4 c2_5 f2_0 f2_1 f2_2 f2_3 f2_4 f2_5
        obtain ⟨c0_0, c0_1⟩ := LF_2.out.cells2
        obtain ⟨f0_0, f0_1⟩ := LF_2.out.free2
        obtain ⟨c1_0, c1_1, c1_2, c1_3, c1_4, c1_5, c1_6, c1_7, c1_8, c1_9, c1_10⟩ := LN_2.out.cells11
        obtain ⟨f1_0, f1_1, f1_2, f1_3, f1_4, f1_5, f1_6, f1_7, f1_8, f1_9, f1_10⟩ := LN_2.out.free11
        obtain ⟨c2_0, c2_1, c2_2, c2_3, c2_4, c2_5⟩ := LR_2.out.cells6
        obtain ⟨f2_0, f2_1, f2_2, f2_3, f2_4, f2_5⟩ := LR_2.out.free6
        go_wp2
        exact ret_ask (w.heap.size + 1 + 1) 34 _ rfl rfl (LR_2.out.put6 _ _ _ _ _ _) rfl rfl ⟨_, rfl, rfl, kt_zero _, below_put6 BB_2.out (by omega) _ _ _ _ _ _⟩

end Go.Proofs.Ytfcfejmammohpaa
