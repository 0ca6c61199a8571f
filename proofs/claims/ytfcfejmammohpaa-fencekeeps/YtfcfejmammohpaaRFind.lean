/-
  The contract of the document's Find.
-/
import Derived.Test.YtfcfejmammohpaaRChk
import Derived.Test.YtfcfejmammohpaaFind
namespace Go.Proofs.Ytfcfejmammohpaa
open Go.RowKit
set_option maxRecDepth 100000
set_option linter.unusedVariables false
set_option linter.unusedSimpArgs false

/-- What the document's Find answers. -/
def RFindPost (w : World) (k : Kp) (f : Bool) (e : Ending) (w' : World) : Prop := ∃ y, e = .returned (.tuple #[.agg (kc y), .bool f]) ∧ y.k = k ∧ KT w' y ∧ Below w.heap.size w w'
theorem kt_zero (w : World) : KT w ⟨kz, .slice none 0 0, .slice none 0 0⟩ := ⟨(Own.nil w 0).reads, (Own.nil w 0).reads, by decide, by unfold in64; decide, by unfold in64; decide⟩
def RfdR (w : World) (n : Nat) (T : Nat → Kp) (q : Int) (gF : Nat) (fc : Array Value) (i : Value) (wr : World) : Prop :=
  ∃ j : Nat, j ≤ n ∧ i = .int .i64 (j : Int) ∧ (∀ k, k < j → (T k).k ≠ q) ∧ Lies wr gF 25 fc ∧ Lies wr (gF + 1) 34 #[.int .u32 0, .int .i64 0, .bool false, .slice none 0 0, .int .i64 0, .slice none 0 0] ∧ Below w.heap.size w wr
set_option maxHeartbeats 16000000 in
theorem rfind_any (ep : Nat) (A : Option Addr) (n c : Nat) (T : Nat → Kp) (o : Nat) (s : Int) (u : Bool) (w : World) (hF : FV w A n c T) (hs : in64 s) :
    Calls Try.prog 17 #[.agg #[.int .u32 (ep : Int), .slice A n c], .int .u32 (o : Int), .int .i64 s, .bool u] w (RFindPost w (findK n T (kn o s u)) (findB n T (kn o s u))) := by
  have CC := Lib.hid (fun W (h : FV W A n c T) => rcheck_fence ep A n c T W h)
  have LF := Lib.hid ((Lies.made w 25 #[.int .u32 (ep : Int), .slice A n c]).alloc (.cells #[.int .u32 0, .int .i64 0, .bool false, .slice none 0 0, .int .i64 0, .slice none 0 0] 34))
  have LR := Lib.hid (Lies.made2 w (.cells #[.int .u32 (ep : Int), .slice A n c] 25) 34 #[.int .u32 0, .int .i64 0, .bool false, .slice none 0 0, .int .i64 0, .slice none 0 0])
  have BB := Lib.hid (below2 w (.cells #[.int .u32 (ep : Int), .slice A n c] 25) (.cells #[.int .u32 0, .int .i64 0, .bool false, .slice none 0 0, .int .i64 0, .slice none 0 0] 34))
  have HF0 := Lib.hid (hF.below BB.out)
  have hn63 : n ≤ maxLen := Nat.le_trans hF.1 hF.2.1
  unfold maxLen at hn63
  cases hok : okB n T
  · have HFB : Hid (findB n T (kn o s u) = false) := Lib.hid (by unfold findB; rw [hok]; rfl)
    rw [chkC_bad hok] at CC
    have HFK := Lib.hid (findK_no HFB.out)
    rw [HFB.out, HFK.out]
    clear hF hs hok HFB HFK
    go_enter Try.func17, Try.ntmps17
    go_wp2_with fail
    with_reducible refine (CC.out _ HF0.out).mono ?_
    rintro x w1 ⟨rfl, hb⟩
    have LF_1 := Lib.hid ((Lies.below LF.out hb LF.out.lt))
    have LR_1 := Lib.hid ((Lies.below LR.out hb LR.out.lt))
    have BB_1 := Lib.hid (BB.out.trans (hb.mono BB.out.size))
    clear hb
    rw [show ((2 : Nat) : Int) = 2 from rfl]
    go_wp2_with fail
    go_loopw [11] (fun i wr => i = .int .i64 0 ∧ Lies wr w.heap.size 25 #[.int .u32 (ep : Int), .slice A n c] ∧ Lies wr (w.heap.size + 1) 34 #[.int .u32 0, .int .i64 0, .bool false, .slice none 0 0, .int .i64 0, .slice none 0 0] ∧ Below w.heap.size w wr) (fun _ _ => 0)
    case atStart => exact ⟨rfl, LF_1.out, LR_1.out, BB_1.out⟩
    case round =>
      obtain ⟨rfl, h1, h2, h3⟩ := hrel
      have LFr := Lib.hid h1
      have LRr := Lib.hid h2
      have BBr := Lib.hid h3
      clear h1 h2 h3
      obtain ⟨a0, a1⟩ := LFr.out.cells2
      obtain ⟨b0, b1, b2, b3, b4, b5⟩ := LRr.out.cells6
      obtain ⟨f0, f1, f2, f3, f4, f5⟩ := LRr.out.free6
      by_cases h0 : 0 < n
      · have d0 : decide ((0 : Int) < (n : Int)) = true := by rw [decide_eq_true_iff]; omega
        have d1 : decide (0 < n) = true := by rw [decide_eq_true_iff]; omega
        clear h0
        go_wp2
        exact ret_keptB (w.heap.size + 1) 34 _ rfl rfl (LRr.out.put6 _ _ _ _ _ _) rfl rfl ⟨_, rfl, rfl, kt_zero _, below_put6 BBr.out (Nat.le_succ _) _ _ _ _ _ _⟩
      · have d0 : decide ((0 : Int) < (n : Int)) = false := by rw [decide_eq_false_iff_not]; omega
        have d1 : decide (0 < n) = false := by rw [decide_eq_false_iff_not]; omega
        clear h0
        go_wp2
        exact ret_keptB (w.heap.size + 1) 34 _ rfl rfl (LRr.out.put6 _ _ _ _ _ _) rfl rfl ⟨_, rfl, rfl, kt_zero _, below_put6 BBr.out (Nat.le_succ _) _ _ _ _ _ _⟩
  · rw [chkC_ok hok] at CC
    have HOK := Lib.hid ((okB_iff n T).1 hok)
    have HFB : Hid (findB n T (kn o s u) = has n T (kn o s u)) := Lib.hid (by unfold findB; rw [hok]; rfl)
    have HFK : Hid (has n T (kn o s u) = true → findK n T (kn o s u) = T (pos T (kn o s u) n)) := Lib.hid (fun h => by unfold findK; rw [if_pos ⟨hok, h⟩])
    obtain ⟨_, _, _, X, hX, hXk⟩ := hF
    have HX := Lib.hid hX
    have HXK := Lib.hid hXk
    have HS := Lib.hid hs
    clear hX hXk hs hok
    go_enter Try.func17, Try.ntmps17
    go_wp2_with fail
    with_reducible refine (CC.out _ HF0.out).mono ?_
    rintro x w1 ⟨rfl, hb⟩
    have LF_1 := Lib.hid ((Lies.below LF.out hb LF.out.lt))
    have LR_1 := Lib.hid ((Lies.below LR.out hb LR.out.lt))
    have BB_1 := Lib.hid (BB.out.trans (hb.mono BB.out.size))
    clear hb
    rw [show ((0 : Nat) : Int) = 0 from rfl]
    go_wp2_with fail
    go_loopw [11] (RfdR w n T (kn o s u) w.heap.size #[.int .u32 (ep : Int), .slice A n c]) (fun i _ => n - (intOf i).toNat)
    case atStart => exact ⟨0, by omega, rfl, (fun k hk => by omega), LF_1.out, LR_1.out, BB_1.out⟩
    case round =>
      obtain ⟨j, hj, rfl, hno, h1, h2, h3⟩ := hrel
      have LFr := Lib.hid h1
      have LRr := Lib.hid h2
      have BBr := Lib.hid h3
      have HNO := Lib.hid hno
      clear h1 h2 h3 hno
      obtain ⟨a0, a1⟩ := LFr.out.cells2
      by_cases hlt : j < n
      · obtain ⟨b, off, rfl, _⟩ := HX.out.1 (by omega)
        have hi : (j : Int) < (n : Int) := by omega
        have HXW := Lib.hid (HX.out.below BBr.out)
        have HKT := Lib.hid (HXW.out.2 j hlt)
        obtain ⟨q0, q1, q2, q3, q4, q5⟩ := HXW.out.at j hlt
        obtain ⟨A1, c1, e1, -⟩ := HKT.out.a
        obtain ⟨A2, c2, e2, -⟩ := HKT.out.r
        have HTJ := Lib.hid (HXK.out j hlt)
        have HKJ : Hid ((T j).k = kn (X j).k.o (X j).k.s (X j).k.u) := Lib.hid (by rw [← HTJ.out])
        have HSX := Lib.hid HKT.out.s
        have HLOW := Lib.hid (HX.out.2 j hlt)
        have HTX : Hid (T j = (X j).k) := Lib.hid HTJ.out.symm
        obtain ⟨x, hx⟩ : ∃ x, X j = x := ⟨_, rfl⟩
        rw [hx] at q0 q1 q2 q3 q4 q5 e1 e2 HKJ HSX HLOW HTX
        clear hx HKT HXW HTJ
        obtain ⟨⟨xo, xs, xu, xa, xc, xr⟩, xK, xD⟩ := x
        dsimp only at *
        subst e1 e2
        obtain ⟨n1, hn1⟩ : ∃ q, xa.length = q := ⟨_, rfl⟩
        obtain ⟨n2, hn2⟩ : ∃ q, xr.length = q := ⟨_, rfl⟩
        rw [hn1, hn2] at HLOW
        rw [hn1] at q3
        rw [hn2] at q5
        clear hn1 hn2
        have LK := Lib.hid (Lies.made wr 34 #[.int .u32 (xo : Int), .int .i64 xs, .bool xu, .slice A1 n1 c1, .int .i64 xc, .slice A2 n2 c2])
        have LF1 := Lib.hid (LFr.out.alloc (.cells #[.int .u32 (xo : Int), .int .i64 xs, .bool xu, .slice A1 n1 c1, .int .i64 xc, .slice A2 n2 c2] 34))
        have LR1 := Lib.hid (LRr.out.alloc (.cells #[.int .u32 (xo : Int), .int .i64 xs, .bool xu, .slice A1 n1 c1, .int .i64 xc, .slice A2 n2 c2] 34))
        have B1 := Lib.hid (BBr.out.alloc BBr.out.size (.cells #[.int .u32 (xo : Int), .int .i64 xs, .bool xu, .slice A1 n1 c1, .int .i64 xc, .slice A2 n2 c2] 34))
        obtain ⟨b0, b1, b2, b3, b4, b5⟩ := LR1.out.cells6
        obtain ⟨f0, f1, f2, f3, f4, f5⟩ := LR1.out.free6
        by_cases h1 : xo = o
        · have d1 : ((xo : Int) == (o : Int)) = true := by simp; omega
          by_cases h2 : xs = s
          · have d2 : (xs == s) = true := by simpa using h2
            by_cases h3 : xu = u
            · have d3 : (xu == u) = true := by simpa using h3
              have hk : (T j).k = kn o s u := by rw [HKJ.out, h1, h2, h3]
              obtain ⟨hp, hh⟩ := has_of HOK.out hlt hk
              have HFK2 := HFK.out hh
              rw [hp, HTX.out] at HFK2
              rw [HFB.out, hh, HFK2]
              clear h1 h2 h3 hk hp hh HFK2
              go_wp2
              refine ret_keptB (w.heap.size + 1) 34 _ rfl rfl (LR1.out.put6 _ _ _ _ _ _) rfl rfl ⟨⟨⟨xo, xs, xu, xa, xc, xr⟩, .slice A1 n1 c1, .slice A2 n2 c2⟩, rfl, rfl, ?_, below_put6 B1.out (Nat.le_succ _) _ _ _ _ _ _⟩
              exact HLOW.out.below (below_put6 B1.out (Nat.le_succ _) _ _ _ _ _ _)
            · have d3 : (xu == u) = false := by simpa using h3
              have HN : Hid ((T j).k ≠ kn o s u) := Lib.hid (fun e => h3 (kn_inj HSX.out HS.out (HKJ.out.symm.trans e)).2.2)
              clear h1 h2 h3
              go_wp2
              go_roundw
              case rel =>
                refine ⟨j + 1, by omega, by go_num, fun k hk => ?_, LF1.out, LR1.out, B1.out⟩
                by_cases e : k = j
                · rw [e]; exact HN.out
                · exact HNO.out k (by omega)
              case measure => simp [intOf]; omega
          · have d2 : (xs == s) = false := by simpa using h2
            have HN : Hid ((T j).k ≠ kn o s u) := Lib.hid (fun e => h2 (kn_inj HSX.out HS.out (HKJ.out.symm.trans e)).2.1)
            clear h1 h2
            go_wp2
            go_roundw
            case rel =>
              refine ⟨j + 1, by omega, by go_num, fun k hk => ?_, LF1.out, LR1.out, B1.out⟩
              by_cases e : k = j
              · rw [e]; exact HN.out
              · exact HNO.out k (by omega)
            case measure => simp [intOf]; omega
        · have d1 : ((xo : Int) == (o : Int)) = false := by simp; omega
          have HN : Hid ((T j).k ≠ kn o s u) := Lib.hid (fun e => h1 (kn_inj HSX.out HS.out (HKJ.out.symm.trans e)).1)
          clear h1
          go_wp2
          go_roundw
          case rel =>
            refine ⟨j + 1, by omega, by go_num, fun k hk => ?_, LF1.out, LR1.out, B1.out⟩
            by_cases e : k = j
            · rw [e]; exact HN.out
            · exact HNO.out k (by omega)
          case measure => simp [intOf]; omega
      · have hjn : j = n := by omega
        have HH : Hid (has n T (kn o s u) = false) := Lib.hid (has_not (by rw [← hjn]; exact HNO.out))
        have HF2 : Hid (findB n T (kn o s u) = false) := Lib.hid (by rw [HFB.out, HH.out])
        rw [HF2.out, findK_no HF2.out]
        have d0 : decide ((j : Int) < (n : Int)) = false := by rw [decide_eq_false_iff_not]; omega
        have d0b : decide (j < n) = false := by rw [decide_eq_false_iff_not]; omega
        clear hjn
        obtain ⟨b0, b1, b2, b3, b4, b5⟩ := LRr.out.cells6
        obtain ⟨f0, f1, f2, f3, f4, f5⟩ := LRr.out.free6
        go_wp2
        exact ret_keptB (w.heap.size + 1) 34 _ rfl rfl (LRr.out.put6 _ _ _ _ _ _) rfl rfl ⟨⟨kz, .slice none 0 0, .slice none 0 0⟩, by rw [HF2.out]; rfl, (findK_no HF2.out).symm, kt_zero _, below_put6 BBr.out (Nat.le_succ _) _ _ _ _ _ _⟩

end Go.Proofs.Ytfcfejmammohpaa
