/-
  FenceEpoch, walked.
-/
import Derived.Test.YtfcfejmammohpaaEpochP
import Derived.Deep.RegionHeld3
import Derived.Deep.DeepCutAuto
import Derived.Deep.CutRange
namespace Go.Proofs.Ytfcfejmammohpaa
open Go.RowKit
set_option maxRecDepth 100000
set_option linter.unusedVariables false
set_option linter.unusedSimpArgs false

set_option maxHeartbeats 16000000 in
theorem fenceEpoch_walk (a0 : Option Addr) (n0 c0 : Nat) (epoch : Nat) (w : World) (hV : CV w a0 n0 c0) (hepo : epoch < 4294967296) (KN : ∀ W, Calls Try.prog 12 #[] W fun x w' => x = .returned (.bool true) ∧ Below W.heap.size W w') (CC : CallsOk) :
    Calls Try.prog 7 #[.slice a0 n0 c0, .int .u32 (epoch : Int)] w fun x w' => x = .returned (.bool true) ∧ Below w.heap.size w w' := by
  have CS := Lib.hid (serve_any CC a0 n0 c0 w hV)
  have CKN := Lib.hid KN
  clear KN hV CC
  unfold ServePost at CS
  unfold St.inv St.le at CS
  go_enter Try.func7, Try.ntmps7
  go_wp2_with fail
  with_reducible refine CS.out.mono ?_
  clear CS
  rintro x w1 ⟨s, ok, rfl, hM, hI, hle⟩
  obtain ⟨ep, A, n, c, Y, Da, nd, dc, D, Ta, nt, tc, U, Oa, no, oc, Ov⟩ := s
  dsimp only at hI hle
  have SM1 := Lib.hid hM
  have HI := Lib.hid hI
  have HLE := Lib.hid hle
  have BB : Hid (Below w.heap.size w w1) := Lib.hid hM.bel
  clear hM hI hle
  obtain ⟨gs, hgs⟩ : ∃ g, g = w.heap.size := ⟨_, rfl⟩
  rw [← hgs]
  rw [← hgs] at SM1
  clear hgs
  have LS1 : Hid (Lies w1 gs 62 #[.int .u32 (ep : Int), .slice A n c, .slice Da nd dc, .slice Ta nt tc, .slice Oa no oc, .bool false]) := Lib.hid SM1.out.box
  cases ok
  · obtain ⟨m0, m1, m2, m3, m4, m5⟩ := LS1.out.cells6
    go_wp2_with fail
    with_reducible refine (CKN.out _).mono ?_
    rintro x w2 ⟨rfl, hb⟩
    have BK := Lib.hid (BB.out.trans (hb.mono BB.out.size))
    clear hb
    go_wp2
    go_ret
    exact ⟨rfl, BK.out⟩
  · obtain ⟨e9, he9⟩ : ∃ q : Nat, q = epoch % 9 := ⟨_, rfl⟩
    have E9 : Hid (((epoch : Int) % 9) = (e9 : Int)) := Lib.hid (by omega)
    have h8 : e9 ≤ 8 := by omega
    clear he9
    have HF1 : Hid (FV w1 A n c (fun i => (Y i).k)) := Lib.hid SM1.out.fv
    obtain ⟨m0, m1, m2, m3, m4, m5⟩ := LS1.out.cells6
    by_cases hlt : e9 < ep
    · have CSe := Lib.hid (see_bad HI.out e9 hlt A c w1 HF1.out)
      rw [← E9.out] at CSe
      have d1 : decide ((ep : Int) ≤ (epoch : Int) % 9) = false := by rw [E9.out, decide_eq_false_iff_not]; omega
      have d2 : decide (ep ≤ epoch % 9) = false := by have := E9.out; rw [decide_eq_false_iff_not]; omega
      go_wp2_with fail
      with_reducible refine CSe.out.mono ?_
      rintro x w2 ⟨As, cs, rfl, hb⟩
      clear m0 m1 m2 m3 m4 m5
      have LS2 : Hid (Lies (w2.alloc (.cells #[.int .u32 0, .slice As 0 cs] 25)) gs 62 #[.int .u32 (ep : Int), .slice A n c, .slice Da nd dc, .slice Ta nt tc, .slice Oa no oc, .bool false]) := Lib.hid ((LS1.out.below hb LS1.out.lt).alloc _)
      have LF2 := Lib.hid (Lies.made w2 25 #[.int .u32 0, .slice As 0 cs])
      have BB2 := Lib.hid ((BB.out.trans (hb.mono BB.out.size)).alloc (Nat.le_trans BB.out.size hb.size) (.cells #[.int .u32 0, .slice As 0 cs] 25))
      clear hb
      obtain ⟨m0, m1, m2, m3, m4, m5⟩ := LS2.out.cells6
      obtain ⟨l0, l1⟩ := LF2.out.cells2
      go_wp2_with fail
      with_reducible refine (CKN.out _).mono ?_
      rintro x w3 ⟨rfl, hb⟩
      have BK := Lib.hid (BB2.out.trans (hb.mono BB2.out.size))
      clear hb
      go_wp2
      go_ret
      exact ⟨rfl, BK.out⟩
    · have CSe := Lib.hid (see_good HI.out e9 hlt A c w1 HF1.out)
      rw [← E9.out] at CSe
      have hge : ep ≤ e9 := Nat.le_of_not_lt hlt
      have d1 : decide ((ep : Int) ≤ (epoch : Int) % 9) = true := by rw [E9.out, decide_eq_true_iff]; omega
      have d2 : decide (ep ≤ epoch % 9) = true := by have := E9.out; rw [decide_eq_true_iff]; omega
      go_wp2_with fail
      with_reducible refine CSe.out.mono ?_
      rw [E9.out]
      rintro x w2 ⟨As, cs, rfl, hfv, hb⟩
      clear m0 m1 m2 m3 m4 m5
      have LS2 : Hid (Lies (w2.alloc (.cells #[.int .u32 (e9 : Int), .slice As n cs] 25)) gs 62 #[.int .u32 (ep : Int), .slice A n c, .slice Da nd dc, .slice Ta nt tc, .slice Oa no oc, .bool false]) := Lib.hid ((LS1.out.below hb LS1.out.lt).alloc _)
      have LF2 : Hid (Lies (w2.alloc (.cells #[.int .u32 (e9 : Int), .slice As n cs] 25)) w2.heap.size 25 #[.int .u32 (e9 : Int), .slice As n cs]) := Lib.hid (Lies.made w2 25 #[.int .u32 (e9 : Int), .slice As n cs])
      have BB2 : Hid (Below w.heap.size w (w2.alloc (.cells #[.int .u32 (e9 : Int), .slice As n cs] 25))) := Lib.hid ((BB.out.trans (hb.mono BB.out.size)).alloc (Nat.le_trans BB.out.size hb.size) (.cells #[.int .u32 (e9 : Int), .slice As n cs] 25))
      have HFs : Hid (FV (w2.alloc (.cells #[.int .u32 (e9 : Int), .slice As n cs] 25)) As n cs (fun i => (Y i).k)) := Lib.hid (hfv.below (below1 w2 (.cells #[.int .u32 (e9 : Int), .slice As n cs] 25)))
      clear hb hfv CSe
      obtain ⟨m0, m1, m2, m3, m4, m5⟩ := LS2.out.cells6
      obtain ⟨l0, l1⟩ := LF2.out.cells2
      go_wp2_with fail
      clear m0 m1 m2 m3 m4 m5 l0 l1 d1 d2
      obtain ⟨x2, hx2⟩ : ∃ z, z = (w2.alloc (.cells #[.int .u32 (e9 : Int), .slice As n cs] 25)) := ⟨_, rfl⟩
      rw [← hx2]
      rw [← hx2] at LS2 LF2 BB2 HFs
      clear hx2
      obtain ⟨gF, hgF⟩ : ∃ g, g = w2.heap.size := ⟨_, rfl⟩
      rw [← hgF]
      rw [← hgF] at LF2
      clear hgF
      go_loopw [9] (EpR x2) (fun i _ => 9 - (intOf i).toNat)
      case atStart => exact ⟨1, by omega, by omega, rfl, Below.refl _ _⟩
      case round =>
        obtain ⟨k, hk1, hk9, rfl, hq⟩ := hrel
        have Q := Lib.hid hq
        clear hq
        have LFr := Lib.hid (LF2.out.below Q.out LF2.out.lt)
        have HFr := Lib.hid (HFs.out.below Q.out)
        obtain ⟨l0, l1⟩ := LFr.out.cells2
        by_cases hke : k < e9
        · have dk : decide ((k : Int) < (e9 : Int)) = true := by rw [decide_eq_true_iff]; omega
          have dk2 : decide (k < e9) = true := decide_eq_true hke
          go_wp2_with fail
          clear l0 l1 dk dk2
          have S12 := Lib.hid (fun W => step_any k 1 0 false [120] ⟨#[120]⟩ W (by decide) rfl (by decide) (by omega) (by decide))
          unfold StepPost at S12
          rw [show (stN k 1 0 false [120]).data.length = 1 from rfl, show ((1 : Nat) : Int) = 1 from rfl] at S12
          have S13 := Lib.hid (fun W => step_any k 3 2 true [] ⟨#[]⟩ W (by decide) rfl (by decide) (by omega) (by decide))
          unfold StepPost at S13
          rw [show (stN k 3 2 true []).data.length = 0 from rfl, show ((3 : Nat) : Int) = 3 from rfl] at S13
          have D12 := Lib.hid (fun W (hb : Below wr.heap.size wr W) Q q (hN : EntV W (stN k 1 0 false [120]) none Q 0 q) => act_any e9 As n cs (fun i => (Y i).k) (stN k 1 0 false [120]) Q q W (HFr.out.below hb) hN (show in64 0 by unfold in64; decide) (by omega) rfl (fun a e r => e = 72) (by rw [ask_old HI.out e9 k 1 0 false [120] hke hk1 (by decide) (by decide) (by decide) (by decide)]; rfl))
          unfold ActPost at D12
          rw [show (stN k 1 0 false [120]).data.length = 1 from rfl] at D12
          have Z := Lib.hid (Below.refl wr.heap.size wr)
          obtain ⟨u0, u1⟩ := LFr.out.cells2
          have hgF : wr.heap.size ≠ gF := Nat.ne_of_gt LFr.out.lt
          have HGF := Lib.hid LFr.out.lt
          go_cut [12] from 74 to 100 (fun s W => s = .int .i64 72 ∧ Below wr.heap.size wr W)
          case first =>
            as_aux_lemma =>
              go_region_held3 (fun W => W.cell? ⟨gF, 0, none⟩ = some (.int .u32 (e9 : Int)) ∧ W.cell? ⟨gF, 1, none⟩ = some (.slice As n cs)) (first | (with_reducible exact ⟨u0, u1⟩) | go_keep)
                (first
                | (go_at_call 31; (with_reducible refine (S12.out wr.drew).mono ?_); (rintro x wa ⟨Q, q, rfl, hN, hb⟩); (have HNa := Lib.hid hN); (have Z := Lib.hid (Z.out.drew.trans (hb.mono Z.out.size))); (clear u0 u1); (obtain ⟨u0, u1⟩ := (Lies.below LFr.out Z.out (Lies.lt LFr.out)).cells2); (have hgA : wa.heap.size ≠ gF := Nat.ne_of_gt (Nat.lt_of_lt_of_le HGF.out Z.out.size)); (clear hN hb))
                | (go_at_call 31; (with_reducible refine (S12.out (wr.alloc (.cells #[.int .u32 0, .int .i64 0, .bool false, .slice none 0 0, .int .i64 0, .slice none 0 0] 34)).drew).mono ?_); (rintro x wa ⟨Q, q, rfl, hN, hb⟩); (have HNa := Lib.hid hN); (have Z := Lib.hid ((Z.out.alloc Z.out.size (.cells #[.int .u32 0, .int .i64 0, .bool false, .slice none 0 0, .int .i64 0, .slice none 0 0] 34)).drew.trans (hb.mono (by simp)))); (clear u0 u1); (obtain ⟨u0, u1⟩ := (Lies.below LFr.out Z.out (Lies.lt LFr.out)).cells2); (have LZ1 := Lib.hid (Lies.below (Lies.drew (Lies.made wr 34 #[.int .u32 0, .int .i64 0, .bool false, .slice none 0 0, .int .i64 0, .slice none 0 0])) hb (Lies.lt (Lies.made wr 34 #[.int .u32 0, .int .i64 0, .bool false, .slice none 0 0, .int .i64 0, .slice none 0 0])))); (have GZ := Lib.hid (Nat.le_refl wr.heap.size)); (clear hN hb))
                | (go_at_call 14; (with_reducible refine (D12.out wa Z.out Q q HNa.out).mono ?_); (rintro x wb ⟨a12, e12, o12, s12, u12, A112, n112, c112, c12, A212, c212, r12, rfl, hB12, hb, rfl⟩); (have LZ2 := Lib.hid (Lies.below LZ1.out hb (Lies.lt LZ1.out))); (obtain ⟨zc0, zc1, zc2, zc3, zc4, zc5⟩ := LZ2.out.cells6); (obtain ⟨zf0, zf1, zf2, zf3, zf4, zf5⟩ := LZ2.out.free6); (have Z := Lib.hid (Z.out.trans (hb.mono Z.out.size))); (clear u0 u1); (obtain ⟨u0, u1⟩ := (Lies.below LFr.out Z.out (Lies.lt LFr.out)).cells2); (have hgB : wb.heap.size ≠ gF := Nat.ne_of_gt (Nat.lt_of_lt_of_le HGF.out Z.out.size)); (clear hB12); (clear hb))
                | (go_at_call 14; (with_reducible refine (D12.out (wa.alloc (.cells #[.int .u32 0, .int .i64 0, .bool false, .slice none 0 0, .int .i64 0, .slice none 0 0] 34)) (Z.out.alloc Z.out.size (.cells #[.int .u32 0, .int .i64 0, .bool false, .slice none 0 0, .int .i64 0, .slice none 0 0] 34)) Q q (HNa.out.below (below1 wa (.cells #[.int .u32 0, .int .i64 0, .bool false, .slice none 0 0, .int .i64 0, .slice none 0 0] 34)))).mono ?_); (rintro x wb ⟨a12, e12, o12, s12, u12, A112, n112, c112, c12, A212, c212, r12, rfl, hB12, hb, rfl⟩); (have LZ2 := Lib.hid (Lies.below (Lies.made wa 34 #[.int .u32 0, .int .i64 0, .bool false, .slice none 0 0, .int .i64 0, .slice none 0 0]) hb (Lies.lt (Lies.made wa 34 #[.int .u32 0, .int .i64 0, .bool false, .slice none 0 0, .int .i64 0, .slice none 0 0])))); (have GZ := Lib.hid Z.out.size); (obtain ⟨zc0, zc1, zc2, zc3, zc4, zc5⟩ := LZ2.out.cells6); (obtain ⟨zf0, zf1, zf2, zf3, zf4, zf5⟩ := LZ2.out.free6); (have Z := Lib.hid ((Z.out.alloc Z.out.size (.cells #[.int .u32 0, .int .i64 0, .bool false, .slice none 0 0, .int .i64 0, .slice none 0 0] 34)).trans (hb.mono (Z.out.alloc Z.out.size (.cells #[.int .u32 0, .int .i64 0, .bool false, .slice none 0 0, .int .i64 0, .slice none 0 0] 34)).size))); (clear u0 u1); (obtain ⟨u0, u1⟩ := (Lies.below LFr.out Z.out (Lies.lt LFr.out)).cells2); (have hgB : wb.heap.size ≠ gF := Nat.ne_of_gt (Nat.lt_of_lt_of_le HGF.out Z.out.size)); (clear hB12); (clear hb))
                | (go_at_call 14; (with_reducible refine (D12.out wa Z.out Q q HNa.out).mono ?_); (rintro x wb ⟨a12, e12, o12, s12, u12, A112, n112, c112, c12, A212, c212, r12, rfl, hB12, hb, rfl⟩); (have Z := Lib.hid (Z.out.trans (hb.mono Z.out.size))); (clear u0 u1); (obtain ⟨u0, u1⟩ := (Lies.below LFr.out Z.out (Lies.lt LFr.out)).cells2); (have hgB : wb.heap.size ≠ gF := Nat.ne_of_gt (Nat.lt_of_lt_of_le HGF.out Z.out.size)); (clear hB12); (clear hb)))
              all_goals
                go_wp2_with fail
                go_meet
                first
                | (with_reducible exact ⟨rfl, (below_put6 Z.out GZ.out _ _ _ _ _ _)⟩)
                | (with_reducible exact ⟨rfl, (Z.out.alloc Z.out.size (.cells #[.int .u32 (o12 : Int), .int .i64 s12, .bool u12, .slice A112 n112 c112, .int .i64 c12, .slice A212 r12.length c212] 34))⟩)
          case rest =>
            obtain ⟨rfl, hBy⟩ := hcut
            generalize wc = x4 at *
            have LF4 := Lib.hid (LFr.out.below hBy LFr.out.lt)
            have HF4 := Lib.hid (HFr.out.below hBy)
            have Q4 := Lib.hid (Q.out.trans (hBy.mono Q.out.size))
            clear hBy D12 u0 u1 hgF HGF Z
            have D13 := Lib.hid (fun W (hb : Below x4.heap.size x4 W) Q q (hN : EntV W (stN k 3 2 true []) none Q 0 q) => keep_old HI.out e9 k hke hk1 (by omega) As cs Q q W (HF4.out.below hb) hN)
            go_wp2_with fail
            have Z := Lib.hid (Below.refl x4.heap.size x4)
            obtain ⟨u0, u1⟩ := LF4.out.cells2
            have hgF : x4.heap.size ≠ gF := Nat.ne_of_gt LF4.out.lt
            have HGF := Lib.hid LF4.out.lt
            go_cut [14] from 74 to 100 (fun s W => s = .int .i64 72 ∧ Below x4.heap.size x4 W)
            case first =>
              as_aux_lemma =>
                go_region_held3 (fun W => W.cell? ⟨gF, 0, none⟩ = some (.int .u32 (e9 : Int)) ∧ W.cell? ⟨gF, 1, none⟩ = some (.slice As n cs)) (first | (with_reducible exact ⟨u0, u1⟩) | go_keep)
                  (first
                  | (go_at_call 31; (with_reducible refine (S13.out x4.drew).mono ?_); (rintro x wa ⟨Q, q, rfl, hN, hb⟩); (have HNa := Lib.hid hN); (have Z := Lib.hid (Z.out.drew.trans (hb.mono Z.out.size))); (clear u0 u1); (obtain ⟨u0, u1⟩ := (Lies.below LF4.out Z.out (Lies.lt LF4.out)).cells2); (have hgA : wa.heap.size ≠ gF := Nat.ne_of_gt (Nat.lt_of_lt_of_le HGF.out Z.out.size)); (clear hN hb))
                  | (go_at_call 31; (with_reducible refine (S13.out (x4.alloc (.cells #[.int .u32 0, .slice none 0 0] 25)).drew).mono ?_); (rintro x wa ⟨Q, q, rfl, hN, hb⟩); (have HNa := Lib.hid hN); (have Z := Lib.hid ((Z.out.alloc Z.out.size (.cells #[.int .u32 0, .slice none 0 0] 25)).drew.trans (hb.mono (by simp)))); (clear u0 u1); (obtain ⟨u0, u1⟩ := (Lies.below LF4.out Z.out (Lies.lt LF4.out)).cells2); (have LZ1 := Lib.hid (Lies.below (Lies.drew (Lies.made x4 25 #[.int .u32 0, .slice none 0 0])) hb (Lies.lt (Lies.made x4 25 #[.int .u32 0, .slice none 0 0])))); (have GZ := Lib.hid (Nat.le_refl x4.heap.size)); (clear hN hb))
                  | (go_at_call 26; (with_reducible refine (D13.out wa Z.out Q q HNa.out).mono ?_); (rintro x wb ⟨e13, A13, n13, c13, rfl, hb⟩); (have LZ2 := Lib.hid (Lies.below LZ1.out hb (Lies.lt LZ1.out))); (obtain ⟨zc0, zc1⟩ := LZ2.out.cells2); (obtain ⟨zf0, zf1⟩ := LZ2.out.free2); (have Z := Lib.hid (Z.out.trans (hb.mono Z.out.size))); (clear u0 u1); (obtain ⟨u0, u1⟩ := (Lies.below LF4.out Z.out (Lies.lt LF4.out)).cells2); (have hgB : wb.heap.size ≠ gF := Nat.ne_of_gt (Nat.lt_of_lt_of_le HGF.out Z.out.size)); (clear hb))
                  | (go_at_call 26; (with_reducible refine (D13.out (wa.alloc (.cells #[.int .u32 0, .slice none 0 0] 25)) (Z.out.alloc Z.out.size (.cells #[.int .u32 0, .slice none 0 0] 25)) Q q (HNa.out.below (below1 wa (.cells #[.int .u32 0, .slice none 0 0] 25)))).mono ?_); (rintro x wb ⟨e13, A13, n13, c13, rfl, hb⟩); (have LZ2 := Lib.hid (Lies.below (Lies.made wa 25 #[.int .u32 0, .slice none 0 0]) hb (Lies.lt (Lies.made wa 25 #[.int .u32 0, .slice none 0 0])))); (have GZ := Lib.hid Z.out.size); (obtain ⟨zc0, zc1⟩ := LZ2.out.cells2); (obtain ⟨zf0, zf1⟩ := LZ2.out.free2); (have Z := Lib.hid ((Z.out.alloc Z.out.size (.cells #[.int .u32 0, .slice none 0 0] 25)).trans (hb.mono (Z.out.alloc Z.out.size (.cells #[.int .u32 0, .slice none 0 0] 25)).size))); (clear u0 u1); (obtain ⟨u0, u1⟩ := (Lies.below LF4.out Z.out (Lies.lt LF4.out)).cells2); (have hgB : wb.heap.size ≠ gF := Nat.ne_of_gt (Nat.lt_of_lt_of_le HGF.out Z.out.size)); (clear hb))
                  | (go_at_call 26; (with_reducible refine (D13.out wa Z.out Q q HNa.out).mono ?_); (rintro x wb ⟨e13, A13, n13, c13, rfl, hb⟩); (have Z := Lib.hid (Z.out.trans (hb.mono Z.out.size))); (clear u0 u1); (obtain ⟨u0, u1⟩ := (Lies.below LF4.out Z.out (Lies.lt LF4.out)).cells2); (have hgB : wb.heap.size ≠ gF := Nat.ne_of_gt (Nat.lt_of_lt_of_le HGF.out Z.out.size)); (clear hb)))
                all_goals
                  go_wp2_with fail
                  go_meet
                  first
                  | (with_reducible exact ⟨rfl, (below_put2 Z.out GZ.out _ _)⟩)
                  | (with_reducible exact ⟨rfl, (Z.out.alloc Z.out.size (.cells #[.int .u32 (e13 : Nat), .slice A13 n13 c13] 25))⟩)
            case rest =>
              obtain ⟨rfl, hBy⟩ := hcut
              generalize wc = x5 at *
              have Q5 := Lib.hid (Q4.out.trans (hBy.mono Q4.out.size))
              clear hBy D13 u0 u1 hgF HGF Z
              go_wp2
              go_roundw
              case rel => exact ⟨k + 1, by omega, by omega, by go_num, Q5.out⟩
              case measure => simp [intOf]; omega
        · have dk : decide ((k : Int) < (e9 : Int)) = false := by rw [decide_eq_false_iff_not]; omega
          have dk2 : decide (k < e9) = false := decide_eq_false hke
          obtain ⟨M, hM1, hM2, hM3⟩ : ∃ M : Nat, max (e9 : Int) 1 = (M : Int) ∧ e9 ≤ M ∧ 1 ≤ M ∧ M ≤ 8 := ⟨max e9 1, by omega, by omega, by omega, by omega⟩
          go_wp2_with fail
          clear l0 l1 dk dk2 hke
          have S16 := Lib.hid (fun W => step_any M 90 0 false [120] ⟨#[120]⟩ W (by decide) rfl (by decide) (by omega) (by decide))
          unfold StepPost at S16
          rw [show (stN M 90 0 false [120]).data.length = 1 from rfl, show ((90 : Nat) : Int) = 90 from rfl] at S16
          have D16 := Lib.hid (fun W (hb : Below wr.heap.size wr W) Q q (hN : EntV W (stN M 90 0 false [120]) none Q 0 q) => act_any e9 As n cs (fun i => (Y i).k) (stN M 90 0 false [120]) Q q W (HFr.out.below hb) hN (show in64 0 by unfold in64; decide) (by omega) rfl (fun a e r => e = 0) (by rw [ask_90 HI.out e9 M hM2 hM3.1]; rfl))
          unfold ActPost at D16
          rw [show (stN M 90 0 false [120]).data.length = 1 from rfl] at D16
          have Z := Lib.hid (Below.refl wr.heap.size wr)
          obtain ⟨u0, u1⟩ := LFr.out.cells2
          have hgF : wr.heap.size ≠ gF := Nat.ne_of_gt LFr.out.lt
          have HGF := Lib.hid LFr.out.lt
          go_cut [17] (fun s W => s = .int .i64 0 ∧ Below wr.heap.size wr W)
          case first =>
            as_aux_lemma =>
              go_region_held3 (fun W => W.cell? ⟨gF, 0, none⟩ = some (.int .u32 (e9 : Int)) ∧ W.cell? ⟨gF, 1, none⟩ = some (.slice As n cs)) (first | (with_reducible exact ⟨u0, u1⟩) | go_keep)
                (first
                | (go_at_call 31; (with_reducible refine (S16.out wr.drew).mono ?_); (rintro x wa ⟨Q, q, rfl, hN, hb⟩); (have HNa := Lib.hid hN); (have Z := Lib.hid (Z.out.drew.trans (hb.mono Z.out.size))); (clear u0 u1); (obtain ⟨u0, u1⟩ := (Lies.below LFr.out Z.out (Lies.lt LFr.out)).cells2); (have hgA : wa.heap.size ≠ gF := Nat.ne_of_gt (Nat.lt_of_lt_of_le HGF.out Z.out.size)); (clear hN hb))
                | (go_at_call 31; (with_reducible refine (S16.out (wr.alloc (.cells #[.int .u32 0, .int .i64 0, .bool false, .slice none 0 0, .int .i64 0, .slice none 0 0] 34)).drew).mono ?_); (rintro x wa ⟨Q, q, rfl, hN, hb⟩); (have HNa := Lib.hid hN); (have Z := Lib.hid ((Z.out.alloc Z.out.size (.cells #[.int .u32 0, .int .i64 0, .bool false, .slice none 0 0, .int .i64 0, .slice none 0 0] 34)).drew.trans (hb.mono (by simp)))); (clear u0 u1); (obtain ⟨u0, u1⟩ := (Lies.below LFr.out Z.out (Lies.lt LFr.out)).cells2); (have LZ1 := Lib.hid (Lies.below (Lies.drew (Lies.made wr 34 #[.int .u32 0, .int .i64 0, .bool false, .slice none 0 0, .int .i64 0, .slice none 0 0])) hb (Lies.lt (Lies.made wr 34 #[.int .u32 0, .int .i64 0, .bool false, .slice none 0 0, .int .i64 0, .slice none 0 0])))); (have GZ := Lib.hid (Nat.le_refl wr.heap.size)); (clear hN hb))
                | (go_at_call 14; (with_reducible refine (D16.out wa Z.out Q q HNa.out).mono ?_); (rintro x wb ⟨a16, e16, o16, s16, u16, A116, n116, c116, c16, A216, c216, r16, rfl, hB16, hb, rfl⟩); (have LZ2 := Lib.hid (Lies.below LZ1.out hb (Lies.lt LZ1.out))); (obtain ⟨zc0, zc1, zc2, zc3, zc4, zc5⟩ := LZ2.out.cells6); (obtain ⟨zf0, zf1, zf2, zf3, zf4, zf5⟩ := LZ2.out.free6); (have Z := Lib.hid (Z.out.trans (hb.mono Z.out.size))); (clear u0 u1); (obtain ⟨u0, u1⟩ := (Lies.below LFr.out Z.out (Lies.lt LFr.out)).cells2); (have hgB : wb.heap.size ≠ gF := Nat.ne_of_gt (Nat.lt_of_lt_of_le HGF.out Z.out.size)); (clear hB16); (clear hb))
                | (go_at_call 14; (with_reducible refine (D16.out (wa.alloc (.cells #[.int .u32 0, .int .i64 0, .bool false, .slice none 0 0, .int .i64 0, .slice none 0 0] 34)) (Z.out.alloc Z.out.size (.cells #[.int .u32 0, .int .i64 0, .bool false, .slice none 0 0, .int .i64 0, .slice none 0 0] 34)) Q q (HNa.out.below (below1 wa (.cells #[.int .u32 0, .int .i64 0, .bool false, .slice none 0 0, .int .i64 0, .slice none 0 0] 34)))).mono ?_); (rintro x wb ⟨a16, e16, o16, s16, u16, A116, n116, c116, c16, A216, c216, r16, rfl, hB16, hb, rfl⟩); (have LZ2 := Lib.hid (Lies.below (Lies.made wa 34 #[.int .u32 0, .int .i64 0, .bool false, .slice none 0 0, .int .i64 0, .slice none 0 0]) hb (Lies.lt (Lies.made wa 34 #[.int .u32 0, .int .i64 0, .bool false, .slice none 0 0, .int .i64 0, .slice none 0 0])))); (have GZ := Lib.hid Z.out.size); (obtain ⟨zc0, zc1, zc2, zc3, zc4, zc5⟩ := LZ2.out.cells6); (obtain ⟨zf0, zf1, zf2, zf3, zf4, zf5⟩ := LZ2.out.free6); (have Z := Lib.hid ((Z.out.alloc Z.out.size (.cells #[.int .u32 0, .int .i64 0, .bool false, .slice none 0 0, .int .i64 0, .slice none 0 0] 34)).trans (hb.mono (Z.out.alloc Z.out.size (.cells #[.int .u32 0, .int .i64 0, .bool false, .slice none 0 0, .int .i64 0, .slice none 0 0] 34)).size))); (clear u0 u1); (obtain ⟨u0, u1⟩ := (Lies.below LFr.out Z.out (Lies.lt LFr.out)).cells2); (have hgB : wb.heap.size ≠ gF := Nat.ne_of_gt (Nat.lt_of_lt_of_le HGF.out Z.out.size)); (clear hB16); (clear hb))
                | (go_at_call 14; (with_reducible refine (D16.out wa Z.out Q q HNa.out).mono ?_); (rintro x wb ⟨a16, e16, o16, s16, u16, A116, n116, c116, c16, A216, c216, r16, rfl, hB16, hb, rfl⟩); (have Z := Lib.hid (Z.out.trans (hb.mono Z.out.size))); (clear u0 u1); (obtain ⟨u0, u1⟩ := (Lies.below LFr.out Z.out (Lies.lt LFr.out)).cells2); (have hgB : wb.heap.size ≠ gF := Nat.ne_of_gt (Nat.lt_of_lt_of_le HGF.out Z.out.size)); (clear hB16); (clear hb)))
              all_goals
                go_wp2_with fail
                go_meet
                first
                | (with_reducible exact ⟨rfl, (below_put6 Z.out GZ.out _ _ _ _ _ _)⟩)
                | (with_reducible exact ⟨rfl, (Z.out.alloc Z.out.size (.cells #[.int .u32 (o16 : Int), .int .i64 s16, .bool u16, .slice A116 n116 c116, .int .i64 c16, .slice A216 r16.length c216] 34))⟩)
          case rest =>
            obtain ⟨rfl, hBy⟩ := hcut
            generalize wc = x6 at *
            have Q6 := Lib.hid (Q.out.trans (hBy.mono Q.out.size))
            clear hBy D16 u0 u1 hgF HGF Z hM1
            have LF6 := Lib.hid (LF2.out.below Q6.out LF2.out.lt)
            have LS6 := Lib.hid (LS2.out.below Q6.out LS2.out.lt)
            have BB6 := Lib.hid (BB2.out.trans (Q6.out.mono BB2.out.size))
            have t1 : ((e9 : Int) == (epoch : Int) % 9) = true := by rw [E9.out]; simp
            have tm : (epoch : Int).tmod 9 = (e9 : Int) := by rw [Int.tmod_eq_emod_of_nonneg (Int.natCast_nonneg _), E9.out]
            have t1c : ((e9 : Int) == (epoch : Int).tmod 9) = true := by rw [tm]; simp
            have t1d : ((e9 : Int) == IntKind.u32.wrap ((epoch : Int).tmod 9)) = true := by rw [tm, IntKind.wrap_u32]; simp; omega
            have t1e : ((e9 : Int) == IntKind.u32.wrap ((epoch : Int) % 9)) = true := by rw [E9.out, IntKind.wrap_u32]; simp; omega
            clear tm
            have t1b : ((e9 : Int) == (e9 : Int)) = true := by simp
            have t2 : ((n : Int) == (n : Int)) = true := by simp
            go_wp2_with fail
            have HSW : Hid (∀ W, Below x2.heap.size x2 W → (W.cell? ⟨gF, 0, none⟩ = some (.int .u32 (e9 : Int)) ∧ W.cell? ⟨gF, 1, none⟩ = some (.slice As n cs) ∧ W.cell? ⟨gs, 1, none⟩ = some (.slice A n c))) := Lib.hid (fun W hb => ⟨(LF2.out.below hb LF2.out.lt).cells2.1, (LF2.out.below hb LF2.out.lt).cells2.2, (LS2.out.below hb LS2.out.lt).cells6.2.1⟩)
            refine wp_region_noPanic ?_
            refine wp_region_held_drew (S := fun W => W.cell? ⟨gF, 0, none⟩ = some (.int .u32 (e9 : Int)) ∧ W.cell? ⟨gF, 1, none⟩ = some (.slice As n cs) ∧ W.cell? ⟨gs, 1, none⟩ = some (.slice A n c)) (by kernel_rfl) (HSW.out x6 Q6.out) (fun hH0 => ?_)
            refine any_take 0 111 ?vn7x0 rfl rfl (by kernel_rfl) (by kernel_rfl) (by kernel_rfl) (fun _ _ _ h => h) (by rfl) ?hyn7x0 hH0 ?restn7x0
            case hyn7x0 => ((intro W hSw); obtain ⟨s0, s1, s2⟩ := hSw; go_simp; (try with_reducible rfl))
            try simp only [Act.put, List.setIfInBounds_toArray, List.set_cons_zero, List.set_cons_succ]
            refine any_take 1 112 ?vn7x1 rfl rfl (by kernel_rfl) (by kernel_rfl) (by kernel_rfl) (fun _ _ _ h => h) (by rfl) ?hyn7x1 hH0 ?restn7x1
            case hyn7x1 => ((intro W hSw); obtain ⟨s0, s1, s2⟩ := hSw; go_simp; (try with_reducible rfl))
            try simp only [Act.put, List.setIfInBounds_toArray, List.set_cons_zero, List.set_cons_succ]
            refine any_take 2 113 ?vn7x2 rfl rfl (by kernel_rfl) (by kernel_rfl) (by kernel_rfl) (fun _ _ _ h => h) (by rfl) ?hyn7x2 hH0 ?restn7x2
            case hyn7x2 => ((intro W hSw); obtain ⟨s0, s1, s2⟩ := hSw; go_simp; (try with_reducible rfl))
            try simp only [Act.put, List.setIfInBounds_toArray, List.set_cons_zero, List.set_cons_succ]
            refine any_take 3 114 ?vn7x3 rfl rfl (by kernel_rfl) (by kernel_rfl) (by kernel_rfl) (fun _ _ _ h => h) (by rfl) ?hyn7x3 hH0 ?restn7x3
            case hyn7x3 => ((intro W hSw); obtain ⟨s0, s1, s2⟩ := hSw; go_simp; (try with_reducible rfl))
            try simp only [Act.put, List.setIfInBounds_toArray, List.set_cons_zero, List.set_cons_succ]
            refine any_take 4 115 ?vn7x4 rfl rfl (by kernel_rfl) (by kernel_rfl) (by kernel_rfl) (fun _ _ _ h => h) (by rfl) ?hyn7x4 hH0 ?restn7x4
            case hyn7x4 => ((intro W hSw); obtain ⟨s0, s1, s2⟩ := hSw; go_simp; (try with_reducible rfl))
            try simp only [Act.put, List.setIfInBounds_toArray, List.set_cons_zero, List.set_cons_succ]
            refine any_take 5 116 ?vn7x5 rfl rfl (by kernel_rfl) (by kernel_rfl) (by kernel_rfl) (fun _ _ _ h => h) (by rfl) ?hyn7x5 hH0 ?restn7x5
            case hyn7x5 => ((intro W hSw); obtain ⟨s0, s1, s2⟩ := hSw; go_simp; (try with_reducible rfl))
            try simp only [Act.put, List.setIfInBounds_toArray, List.set_cons_zero, List.set_cons_succ]
            refine any_take 6 117 ?vn7x6 rfl rfl (by kernel_rfl) (by kernel_rfl) (by kernel_rfl) (fun _ _ _ h => h) (by rfl) ?hyn7x6 hH0 ?restn7x6
            case hyn7x6 => ((intro W hSw); obtain ⟨s0, s1, s2⟩ := hSw; go_simp; (try with_reducible rfl))
            try simp only [Act.put, List.setIfInBounds_toArray, List.set_cons_zero, List.set_cons_succ]
            refine any_take 7 118 ?vn7x7 rfl rfl (by kernel_rfl) (by kernel_rfl) (by kernel_rfl) (fun _ _ _ h => h) (by rfl) ?hyn7x7 hH0 ?restn7x7
            case hyn7x7 => ((intro W hSw); obtain ⟨s0, s1, s2⟩ := hSw; go_simp; (try with_reducible rfl))
            try simp only [Act.put, List.setIfInBounds_toArray, List.set_cons_zero, List.set_cons_succ]
            refine any_take 8 119 ?vn7x8 rfl rfl (by kernel_rfl) (by kernel_rfl) (by kernel_rfl) (fun _ _ _ h => h) (by rfl) ?hyn7x8 hH0 ?restn7x8
            case hyn7x8 => ((intro W hSw); obtain ⟨s0, s1, s2⟩ := hSw; go_simp; (try with_reducible rfl))
            try simp only [Act.put, List.setIfInBounds_toArray, List.set_cons_zero, List.set_cons_succ]
            refine any_take 9 120 ?vn7x9 rfl rfl (by kernel_rfl) (by kernel_rfl) (by kernel_rfl) (fun _ _ _ h => h) (by rfl) ?hyn7x9 hH0 ?restn7x9
            case hyn7x9 => ((intro W hSw); obtain ⟨s0, s1, s2⟩ := hSw; go_simp; (try with_reducible rfl))
            try simp only [Act.put, List.setIfInBounds_toArray, List.set_cons_zero, List.set_cons_succ]
            refine any_take 10 121 ?vn7x10 rfl rfl (by kernel_rfl) (by kernel_rfl) (by kernel_rfl) (fun _ _ _ h => h) (by rfl) ?hyn7x10 hH0 ?restn7x10
            case hyn7x10 => ((intro W hSw); obtain ⟨s0, s1, s2⟩ := hSw; go_simp; (try with_reducible rfl))
            try simp only [Act.put, List.setIfInBounds_toArray, List.set_cons_zero, List.set_cons_succ]
            refine any_take 11 122 ?vn7x11 rfl rfl (by kernel_rfl) (by kernel_rfl) (by kernel_rfl) (fun _ _ _ h => h) (by rfl) ?hyn7x11 hH0 ?restn7x11
            case hyn7x11 => ((intro W hSw); obtain ⟨s0, s1, s2⟩ := hSw; go_simp; (try with_reducible rfl))
            try simp only [Act.put, List.setIfInBounds_toArray, List.set_cons_zero, List.set_cons_succ]
            refine any_take 12 123 ?vn7x12 rfl rfl (by kernel_rfl) (by kernel_rfl) (by kernel_rfl) (fun _ _ _ h => h) (by rfl) ?hyn7x12 hH0 ?restn7x12
            case hyn7x12 => ((intro W hSw); obtain ⟨s0, s1, s2⟩ := hSw; go_simp; (try with_reducible rfl))
            try simp only [Act.put, List.setIfInBounds_toArray, List.set_cons_zero, List.set_cons_succ]
            refine any_take 13 124 ?vn7x13 rfl rfl (by kernel_rfl) (by kernel_rfl) (by kernel_rfl) (fun _ _ _ h => h) (by rfl) ?hyn7x13 hH0 ?restn7x13
            case hyn7x13 => ((intro W hSw); obtain ⟨s0, s1, s2⟩ := hSw; go_simp; (try with_reducible rfl))
            try simp only [Act.put, List.setIfInBounds_toArray, List.set_cons_zero, List.set_cons_succ]
            refine any_take 14 125 ?vn7x14 rfl rfl (by kernel_rfl) (by kernel_rfl) (by kernel_rfl) (fun _ _ _ h => h) (by rfl) ?hyn7x14 hH0 ?restn7x14
            case hyn7x14 => ((intro W hSw); obtain ⟨s0, s1, s2⟩ := hSw; go_simp; (try with_reducible rfl))
            try simp only [Act.put, List.setIfInBounds_toArray, List.set_cons_zero, List.set_cons_succ]
            refine any_take 15 126 ?vn7x15 rfl rfl (by kernel_rfl) (by kernel_rfl) (by kernel_rfl) (fun _ _ _ h => h) (by rfl) ?hyn7x15 hH0 ?restn7x15
            case hyn7x15 => ((intro W hSw); obtain ⟨s0, s1, s2⟩ := hSw; go_simp; (try with_reducible rfl))
            try simp only [Act.put, List.setIfInBounds_toArray, List.set_cons_zero, List.set_cons_succ]
            refine any_take 16 127 ?vn7x16 rfl rfl (by kernel_rfl) (by kernel_rfl) (by kernel_rfl) (fun _ _ _ h => h) (by rfl) ?hyn7x16 hH0 ?restn7x16
            case hyn7x16 => ((intro W hSw); obtain ⟨s0, s1, s2⟩ := hSw; go_simp; (try with_reducible rfl))
            try simp only [Act.put, List.setIfInBounds_toArray, List.set_cons_zero, List.set_cons_succ]
            refine any_take 17 128 ?vn7x17 rfl rfl (by kernel_rfl) (by kernel_rfl) (by kernel_rfl) (fun _ _ _ h => h) (by rfl) ?hyn7x17 hH0 ?restn7x17
            case hyn7x17 => ((intro W hSw); obtain ⟨s0, s1, s2⟩ := hSw; go_simp; (try with_reducible rfl))
            try simp only [Act.put, List.setIfInBounds_toArray, List.set_cons_zero, List.set_cons_succ]
            refine any_take 18 129 ?vn7x18 rfl rfl (by kernel_rfl) (by kernel_rfl) (by kernel_rfl) (fun _ _ _ h => h) (by rfl) ?hyn7x18 hH0 ?restn7x18
            case hyn7x18 => ((intro W hSw); obtain ⟨s0, s1, s2⟩ := hSw; go_simp; (try with_reducible rfl))
            try simp only [Act.put, List.setIfInBounds_toArray, List.set_cons_zero, List.set_cons_succ]
            refine any_take 19 130 ?vn7x19 rfl rfl (by kernel_rfl) (by kernel_rfl) (by kernel_rfl) (fun _ _ _ h => h) (by rfl) ?hyn7x19 hH0 ?restn7x19
            case hyn7x19 => ((intro W hSw); obtain ⟨s0, s1, s2⟩ := hSw; go_simp; (try with_reducible rfl))
            try simp only [Act.put, List.setIfInBounds_toArray, List.set_cons_zero, List.set_cons_succ]
            refine any_take 20 131 ?vn7x20 rfl rfl (by kernel_rfl) (by kernel_rfl) (by kernel_rfl) (fun _ _ _ h => h) (by rfl) ?hyn7x20 hH0 ?restn7x20
            case hyn7x20 => ((intro W hSw); obtain ⟨s0, s1, s2⟩ := hSw; go_simp; (try with_reducible rfl))
            try simp only [Act.put, List.setIfInBounds_toArray, List.set_cons_zero, List.set_cons_succ]
            refine any_take 21 132 ?vn7x21 rfl rfl (by kernel_rfl) (by kernel_rfl) (by kernel_rfl) (fun _ _ _ h => h) (by rfl) ?hyn7x21 hH0 ?restn7x21
            case hyn7x21 => ((intro W hSw); obtain ⟨s0, s1, s2⟩ := hSw; go_simp; (try with_reducible rfl))
            try simp only [Act.put, List.setIfInBounds_toArray, List.set_cons_zero, List.set_cons_succ]
            refine wpAnyH_ready (rs := [22]) (by kernel_rfl) (by simp) ?_
            refine AllReadyH.cons rfl (fun K hK => ?_) AllReadyH.nil
            go_simp
            go_at_call 12
            with_reducible refine (CKN.out _).mono ?_
            rintro x wq ⟨rfl, hb⟩
            have Q7 := Lib.hid (Q6.out.drew.trans (hb.mono Q6.out.size))
            have BB7 := Lib.hid (BB6.out.drew.trans (hb.mono BB6.out.size))
            clear hb
            refine hK.out _ _ ((HSW.out wq Q7.out)) (fun hH1 => ?_)
            clear hK K
            try simp only [Act.put, List.setIfInBounds_toArray, List.set_cons_zero, List.set_cons_succ]
            clear hH0
            refine any_take 23 134 ?vn8x23 rfl rfl (by kernel_rfl) (by kernel_rfl) (by kernel_rfl) (fun _ _ _ h => h) (by rfl) ?hyn8x23 hH1 ?restn8x23
            case hyn8x23 => ((intro W hSw); obtain ⟨s0, s1, s2⟩ := hSw; go_simp; (try with_reducible rfl))
            try simp only [Act.put, List.setIfInBounds_toArray, List.set_cons_zero, List.set_cons_succ]
            refine any_take 24 4 ?vn8x24 rfl rfl (by kernel_rfl) (by kernel_rfl) (by kernel_rfl) (fun _ _ _ h => h) (by rfl) ?hyn8x24 hH1 ?restn8x24
            case hyn8x24 => ((intro W hSw); obtain ⟨s0, s1, s2⟩ := hSw; go_simp; (try with_reducible rfl))
            try simp only [Act.put, List.setIfInBounds_toArray, List.set_cons_zero, List.set_cons_succ]
            clear hH1
            refine wpAnyH_done (by kernel_rfl) ?_ _
            refine NoPanic.normal ?_
            go_wp2
            go_ret
            exact ⟨rfl, BB7.out⟩

end Go.Proofs.Ytfcfejmammohpaa
