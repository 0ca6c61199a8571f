/-
  The contract of known.
-/
import Derived.Test.YtfcfejmammohpaaKnownP
import Derived.Test.YtfcfejmammohpaaSee
import Derived.Deep.RegionHeld3
import Derived.Deep.DeepCutAuto
namespace Go.Proofs.Ytfcfejmammohpaa
open Go.RowKit
set_option maxRecDepth 100000
set_option linter.unusedVariables false
set_option linter.unusedSimpArgs false

set_option maxHeartbeats 16000000 in
theorem known_any (w : World) : Calls Try.prog 12 #[] w fun x w' => x = .returned (.bool true) ∧ Below w.heap.size w w' := by
  have S1 := Lib.hid (fun W => step_any 2 1 0 false [97] ⟨#[97]⟩ W (by decide) rfl (by decide) (by decide) (by decide))
  unfold StepPost at S1
  rw [show (stN 2 1 0 false [97]).data.length = 1 from rfl] at S1
  rw [show ((1 : Nat) : Int) = 1 from rfl] at S1
  rw [show ((2 : Nat) : Int) = 2 from rfl] at S1
  have S2 := Lib.hid (fun W => step_any 2 1 0 false [97] ⟨#[97]⟩ W (by decide) rfl (by decide) (by decide) (by decide))
  unfold StepPost at S2
  rw [show (stN 2 1 0 false [97]).data.length = 1 from rfl] at S2
  rw [show ((1 : Nat) : Int) = 1 from rfl] at S2
  rw [show ((2 : Nat) : Int) = 2 from rfl] at S2
  have S3 := Lib.hid (fun W => step_any 2 1 0 false [97] ⟨#[97]⟩ W (by decide) rfl (by decide) (by decide) (by decide))
  unfold StepPost at S3
  rw [show (stN 2 1 0 false [97]).data.length = 1 from rfl] at S3
  rw [show ((1 : Nat) : Int) = 1 from rfl] at S3
  rw [show ((2 : Nat) : Int) = 2 from rfl] at S3
  have S4 := Lib.hid (fun W => step_any 2 1 0 false [98] ⟨#[98]⟩ W (by decide) rfl (by decide) (by decide) (by decide))
  unfold StepPost at S4
  rw [show (stN 2 1 0 false [98]).data.length = 1 from rfl] at S4
  rw [show ((1 : Nat) : Int) = 1 from rfl] at S4
  rw [show ((2 : Nat) : Int) = 2 from rfl] at S4
  have S5 := Lib.hid (fun W => step_any 1 1 0 false [97] ⟨#[97]⟩ W (by decide) rfl (by decide) (by decide) (by decide))
  unfold StepPost at S5
  rw [show (stN 1 1 0 false [97]).data.length = 1 from rfl] at S5
  rw [show ((1 : Nat) : Int) = 1 from rfl] at S5
  have S6 := Lib.hid (fun W => step_any 2 1 0 true [] ⟨#[]⟩ W (by decide) rfl (by decide) (by decide) (by decide))
  unfold StepPost at S6
  rw [show (stN 2 1 0 true []).data.length = 0 from rfl] at S6
  rw [show ((1 : Nat) : Int) = 1 from rfl] at S6
  rw [show ((2 : Nat) : Int) = 2 from rfl] at S6
  have S7 := Lib.hid (fun W => step_any 2 1 1 true [] ⟨#[]⟩ W (by decide) rfl (by decide) (by decide) (by decide))
  unfold StepPost at S7
  rw [show (stN 2 1 1 true []).data.length = 0 from rfl] at S7
  rw [show ((1 : Nat) : Int) = 1 from rfl] at S7
  rw [show ((2 : Nat) : Int) = 2 from rfl] at S7
  have S8 := Lib.hid (fun W => step_any 3 1 1 true [] ⟨#[]⟩ W (by decide) rfl (by decide) (by decide) (by decide))
  unfold StepPost at S8
  rw [show (stN 3 1 1 true []).data.length = 0 from rfl] at S8
  rw [show ((1 : Nat) : Int) = 1 from rfl] at S8
  rw [show ((3 : Nat) : Int) = 3 from rfl] at S8
  have S9 := Lib.hid (fun W => step_any 3 1 1 false [120] ⟨#[120]⟩ W (by decide) rfl (by decide) (by decide) (by decide))
  unfold StepPost at S9
  rw [show (stN 3 1 1 false [120]).data.length = 1 from rfl] at S9
  rw [show ((1 : Nat) : Int) = 1 from rfl] at S9
  rw [show ((3 : Nat) : Int) = 3 from rfl] at S9
  have C1 := Lib.hid (fun W A2 c2 (hN : EntV W (stN 2 1 0 false [97]) none A2 0 c2) => act_any 0 none 0 0 T0 (stN 2 1 0 false [97]) A2 c2 W (FV.nil W T0) hN (by unfold in64; decide) (by decide) rfl (fun a e r => a = 1 ∧ e = 0) ⟨by rw [k1.1]; rfl, by rw [k1.2]; rfl⟩)
  rw [show ((0 : Nat) : Int) = 0 from rfl] at C1
  unfold ActPost at C1
  rw [show (stN 2 1 0 false [97]).data.length = 1 from rfl] at C1
  have C3 := Lib.hid (fun W A c A2 c2 (hF : FV W A 1 c F1.T) (hN : EntV W (stN 2 1 0 false [97]) none A2 0 c2) => act_any 2 A 1 c F1.T (stN 2 1 0 false [97]) A2 c2 W hF hN (by unfold in64; decide) (by decide) rfl (fun a e r => a = 2 ∧ e = 0 ∧ r = [114]) ⟨by rw [k2.1]; rfl, by rw [k2.2.1]; rfl, k2.2.2⟩)
  rw [show ((2 : Nat) : Int) = 2 from rfl] at C3
  unfold ActPost at C3
  rw [show (stN 2 1 0 false [97]).data.length = 1 from rfl] at C3
  have C4 := Lib.hid (fun W A c A2 c2 (hF : FV W A 1 c F1.T) (hN : EntV W (stN 2 1 0 false [98]) none A2 0 c2) => act_any 2 A 1 c F1.T (stN 2 1 0 false [98]) A2 c2 W hF hN (by unfold in64; decide) (by decide) rfl (fun a e r => e = 80) (by rw [k3]; rfl))
  rw [show ((2 : Nat) : Int) = 2 from rfl] at C4
  unfold ActPost at C4
  rw [show (stN 2 1 0 false [98]).data.length = 1 from rfl] at C4
  have C5 := Lib.hid (fun W A c A2 c2 (hF : FV W A 1 c F1.T) (hN : EntV W (stN 1 1 0 false [97]) none A2 0 c2) => act_any 2 A 1 c F1.T (stN 1 1 0 false [97]) A2 c2 W hF hN (by unfold in64; decide) (by decide) rfl (fun a e r => e = 72) (by rw [k4]; rfl))
  rw [show ((2 : Nat) : Int) = 2 from rfl] at C5
  unfold ActPost at C5
  rw [show (stN 1 1 0 false [97]).data.length = 1 from rfl] at C5
  have C6 := Lib.hid (fun W A c A2 c2 (hF : FV W A 1 c F1.T) (hN : EntV W (stN 2 1 0 true []) none A2 0 c2) => act_any 2 A 1 c F1.T (stN 2 1 0 true []) A2 c2 W hF hN (by unfold in64; decide) (by decide) rfl (fun a e r => a = 1) (by rw [k5]; rfl))
  rw [show ((2 : Nat) : Int) = 2 from rfl] at C6
  unfold ActPost at C6
  rw [show (stN 2 1 0 true []).data.length = 0 from rfl] at C6
  have C7 := Lib.hid (fun W A c A2 c2 (hF : FV W A 1 c F1.T) (hN : EntV W (stN 2 1 1 true []) none A2 0 c2) => act_any 2 A 1 c F1.T (stN 2 1 1 true []) A2 c2 W hF hN (by unfold in64; decide) (by decide) rfl (fun a e r => a = 4) (by rw [k6]; rfl))
  rw [show ((2 : Nat) : Int) = 2 from rfl] at C7
  unfold ActPost at C7
  rw [show (stN 2 1 1 true []).data.length = 0 from rfl] at C7
  have C9 := Lib.hid (fun W A c A2 c2 (hF : FV W A 2 c F2.T) (hN : EntV W (stN 3 1 1 false [120]) none A2 0 c2) => act_any 3 A 2 c F2.T (stN 3 1 1 false [120]) A2 c2 W hF hN (by unfold in64; decide) (by decide) rfl (fun a e r => a = 3) (by rw [k7]; rfl))
  rw [show ((3 : Nat) : Int) = 3 from rfl] at C9
  unfold ActPost at C9
  rw [show (stN 3 1 1 false [120]).data.length = 1 from rfl] at C9
  have K2 := Lib.hid (fun W A2 c2 A3 c3 hN hR h3 h4 h5 => keep0_any A2 c2 A3 c3 W hN hR h3 h4 h5)
  have K8 := Lib.hid (fun W A c A2 c2 hF hN => keep1_any A c A2 c2 W hF hN)
  have BB := Lib.hid (Below.refl w.heap.size w)
  have kcv := fun (w : World) (C : Array Value) (n c : Nat) => Lib.run_convert_bytes_const (P := Try.prog) w 27 5 C n c Try.underlying27 Try.underlying5
  go_enter Try.func12, Try.ntmps12
  go_wp2_with fail
  with_reducible refine (S1.out _).mono ?_
  rintro x w1 ⟨Q1, q1, rfl, hN, hb⟩
  have HN1 := Lib.hid hN
  clear hN
  have BB_1 := Lib.hid (BB.out.trans (hb.mono BB.out.size))
  clear hb
  go_wp2_with fail
  with_reducible refine (C1.out _ Q1 q1 HN1.out).mono ?_
  rintro x w2 ⟨a1, e1, o1, s1, u1, A11, n11, c11, c1, A21, c21, r1, rfl, hB1, hb, rfl, rfl⟩
  have BB_2 := Lib.hid ((BB_1.out.trans (hb.mono BB_1.out.size)).alloc (BB_1.out.trans (hb.mono BB_1.out.size)).size (.cells #[.int .u32 (o1 : Int), .int .i64 s1, .bool u1, .slice A11 n11 c11, .int .i64 c1, .slice A21 r1.length c21] 34))
  have LN2_2 := Lib.hid (Lies.made w2 34 #[.int .u32 (o1 : Int), .int .i64 s1, .bool u1, .slice A11 n11 c11, .int .i64 c1, .slice A21 r1.length c21])
  clear hb
  obtain ⟨c0_0, c0_1, c0_2, c0_3, c0_4, c0_5⟩ := LN2_2.out.cells6
  obtain ⟨f0_0, f0_1, f0_2, f0_3, f0_4, f0_5⟩ := LN2_2.out.free6
  go_wp2_with fail
  with_reducible refine (S2.out _).mono ?_
  rintro x w3 ⟨Q2, q2, rfl, hN, hb⟩
  have HN2 := Lib.hid hN
  clear hN
  have BB_3 := Lib.hid (BB_2.out.trans (hb.mono BB_2.out.size))
  clear hb
  have RB := Lib.hid (Bys.const w3 #[.int .u8 114] [114] (1, 2) 1 rfl rfl (by decide))
  have HN2b := Lib.hid (HN2.out.below (below1 w3 (.cells #[.int .u8 114] 5 (1, 2))))
  have BBb := Lib.hid (BB_3.out.alloc BB_3.out.size (.cells #[.int .u8 114] 5 (1, 2)))
  go_wp2_with fail
  with_reducible refine (K2.out _ Q2 q2 _ 1 HN2b.out RB.out (Nat.le_refl _) (by unfold maxLen; omega) (fun h => by cases h)).mono ?_
  rintro x w4 ⟨A, c, rfl, hF, hb⟩
  have HF := Lib.hid (hF.below (below1 w4 (.cells #[.int .u32 2, .slice A 1 c] 25)))
  clear hF
  have BBb_4 := Lib.hid ((BBb.out.trans (hb.mono BBb.out.size)).alloc (BBb.out.trans (hb.mono BBb.out.size)).size (.cells #[.int .u32 2, .slice A 1 c] 25))
  have LN4_4 := Lib.hid (Lies.made w4 25 #[.int .u32 2, .slice A 1 c])
  clear hb
  obtain ⟨c0_0, c0_1⟩ := LN4_4.out.cells2
  obtain ⟨f0_0, f0_1⟩ := LN4_4.out.free2
  go_wp2_with fail
  obtain ⟨y4, hy4⟩ : ∃ y, y = w4.alloc (.cells #[.int .u32 2, .slice A 1 c] 25) := ⟨_, rfl⟩
  obtain ⟨g4, hg4⟩ : ∃ g, g = w4.heap.size := ⟨_, rfl⟩
  rw [← hy4, ← hg4]
  have LF4 := LN4_4
  have HB4 := BBb_4
  rw [← hy4, ← hg4] at LF4
  rw [← hy4] at HF HB4
  clear c0_0 c0_1 f0_0 f0_1
  clear LN4_4 BBb_4 hy4 hg4
  have D3 := Lib.hid (fun W (hb : Below y4.heap.size y4 W) Q q (hN : EntV W (stN 2 1 0 false [97]) none Q 0 q) => C3.out W A c Q q (HF.out.below hb) hN)
  have Z := Lib.hid (Below.refl y4.heap.size y4)
  obtain ⟨u0, u1⟩ := LF4.out.cells2
  have hgF : y4.heap.size ≠ g4 := Nat.ne_of_gt LF4.out.lt
  have HGF := Lib.hid LF4.out.lt
  go_cut [6, 7, 8] (fun s6 s7 s8 W => s6 = .int .i64 2 ∧ s8 = .int .i64 0 ∧ ∃ g o3 s3 u3 A13 n13 c13 c3 A23 c23, s7 = .pointer (some ⟨g, 0, none⟩) ∧ Lies W g 34 #[.int .u32 (o3 : Int), .int .i64 s3, .bool u3, .slice A13 n13 c13, .int .i64 c3, .slice A23 1 c23] ∧ Own W 0 (.slice A23 1 c23) [114] ∧ Below y4.heap.size y4 W)
  case first =>
    as_aux_lemma =>
      go_region_held3 (fun W => W.cell? ⟨g4, 0, none⟩ = some (.int .u32 2) ∧ W.cell? ⟨g4, 1, none⟩ = some (.slice A 1 c)) (first | (with_reducible exact ⟨u0, u1⟩) | go_keep)
        (first
        | (go_at_call 31; (with_reducible refine (S3.out y4.drew).mono ?_); (rintro x wa ⟨Q, q, rfl, hN, hb⟩); (have HNa := Lib.hid hN); (have Z := Lib.hid (Z.out.drew.trans (hb.mono Z.out.size))); (clear u0 u1); (obtain ⟨u0, u1⟩ := (Lies.below LF4.out Z.out (Lies.lt LF4.out)).cells2); (have hgA : wa.heap.size ≠ g4 := Nat.ne_of_gt (Nat.lt_of_lt_of_le HGF.out Z.out.size)); (clear hN hb))
        | (go_at_call 31; (with_reducible refine (S3.out (y4.alloc (.cells #[.int .u32 0, .int .i64 0, .bool false, .slice none 0 0, .int .i64 0, .slice none 0 0] 34)).drew).mono ?_); (rintro x wa ⟨Q, q, rfl, hN, hb⟩); (have HNa := Lib.hid hN); (have Z := Lib.hid ((Z.out.alloc Z.out.size (.cells #[.int .u32 0, .int .i64 0, .bool false, .slice none 0 0, .int .i64 0, .slice none 0 0] 34)).drew.trans (hb.mono (by simp)))); (clear u0 u1); (obtain ⟨u0, u1⟩ := (Lies.below LF4.out Z.out (Lies.lt LF4.out)).cells2); (have LZ1 := Lib.hid (Lies.below (Lies.drew (Lies.made y4 34 #[.int .u32 0, .int .i64 0, .bool false, .slice none 0 0, .int .i64 0, .slice none 0 0])) hb (Lies.lt (Lies.made y4 34 #[.int .u32 0, .int .i64 0, .bool false, .slice none 0 0, .int .i64 0, .slice none 0 0])))); (have GZ := Lib.hid (Nat.le_refl y4.heap.size)); (clear hN hb))
        | (go_at_call 14; (with_reducible refine (D3.out wa Z.out Q q HNa.out).mono ?_); (rintro x wb ⟨a3, e3, o3, s3, u3, A13, n13, c13, c3, A23, c23, r3, rfl, hB3, hb, rfl, rfl, rfl⟩); (have LZ2 := Lib.hid (Lies.below LZ1.out hb (Lies.lt LZ1.out))); (obtain ⟨zc0, zc1, zc2, zc3, zc4, zc5⟩ := LZ2.out.cells6); (obtain ⟨zf0, zf1, zf2, zf3, zf4, zf5⟩ := LZ2.out.free6); (have Z := Lib.hid (Z.out.trans (hb.mono Z.out.size))); (clear u0 u1); (obtain ⟨u0, u1⟩ := (Lies.below LF4.out Z.out (Lies.lt LF4.out)).cells2); (have hgB : wb.heap.size ≠ g4 := Nat.ne_of_gt (Nat.lt_of_lt_of_le HGF.out Z.out.size)); (have RB3 := Lib.hid (hB3.mono (Nat.zero_le _))); (clear hB3); (clear hb))
        | (go_at_call 14; (with_reducible refine (D3.out (wa.alloc (.cells #[.int .u32 0, .int .i64 0, .bool false, .slice none 0 0, .int .i64 0, .slice none 0 0] 34)) (Z.out.alloc Z.out.size (.cells #[.int .u32 0, .int .i64 0, .bool false, .slice none 0 0, .int .i64 0, .slice none 0 0] 34)) Q q (HNa.out.below (below1 wa (.cells #[.int .u32 0, .int .i64 0, .bool false, .slice none 0 0, .int .i64 0, .slice none 0 0] 34)))).mono ?_); (rintro x wb ⟨a3, e3, o3, s3, u3, A13, n13, c13, c3, A23, c23, r3, rfl, hB3, hb, rfl, rfl, rfl⟩); (have LZ2 := Lib.hid (Lies.below (Lies.made wa 34 #[.int .u32 0, .int .i64 0, .bool false, .slice none 0 0, .int .i64 0, .slice none 0 0]) hb (Lies.lt (Lies.made wa 34 #[.int .u32 0, .int .i64 0, .bool false, .slice none 0 0, .int .i64 0, .slice none 0 0])))); (have GZ := Lib.hid Z.out.size); (obtain ⟨zc0, zc1, zc2, zc3, zc4, zc5⟩ := LZ2.out.cells6); (obtain ⟨zf0, zf1, zf2, zf3, zf4, zf5⟩ := LZ2.out.free6); (have Z := Lib.hid ((Z.out.alloc Z.out.size (.cells #[.int .u32 0, .int .i64 0, .bool false, .slice none 0 0, .int .i64 0, .slice none 0 0] 34)).trans (hb.mono (Z.out.alloc Z.out.size (.cells #[.int .u32 0, .int .i64 0, .bool false, .slice none 0 0, .int .i64 0, .slice none 0 0] 34)).size))); (clear u0 u1); (obtain ⟨u0, u1⟩ := (Lies.below LF4.out Z.out (Lies.lt LF4.out)).cells2); (have hgB : wb.heap.size ≠ g4 := Nat.ne_of_gt (Nat.lt_of_lt_of_le HGF.out Z.out.size)); (have RB3 := Lib.hid (hB3.mono (Nat.zero_le _))); (clear hB3); (clear hb))
        | (go_at_call 14; (with_reducible refine (D3.out wa Z.out Q q HNa.out).mono ?_); (rintro x wb ⟨a3, e3, o3, s3, u3, A13, n13, c13, c3, A23, c23, r3, rfl, hB3, hb, rfl, rfl, rfl⟩); (have Z := Lib.hid (Z.out.trans (hb.mono Z.out.size))); (clear u0 u1); (obtain ⟨u0, u1⟩ := (Lies.below LF4.out Z.out (Lies.lt LF4.out)).cells2); (have hgB : wb.heap.size ≠ g4 := Nat.ne_of_gt (Nat.lt_of_lt_of_le HGF.out Z.out.size)); (have RB3 := Lib.hid (hB3.mono (Nat.zero_le _))); (clear hB3); (clear hb)))
      all_goals
        go_wp2_with fail
        go_meet
        first
        | (with_reducible exact ⟨rfl, rfl, _, _, _, _, _, _, _, _, _, _, rfl, (Lies.put6 LZ2.out _ _ _ _ _ _), (Own.put6 RB3.out LZ2.out (by decide) _ _ _ _ _ _), (below_put6 Z.out GZ.out _ _ _ _ _ _)⟩)
        | (with_reducible exact ⟨rfl, rfl, _, _, _, _, _, _, _, _, _, _, rfl, (Lies.made wb 34 #[.int .u32 (o3 : Int), .int .i64 s3, .bool u3, .slice A13 n13 c13, .int .i64 c3, .slice A23 1 c23]), (Own.alloc RB3.out _), (Z.out.alloc Z.out.size (.cells #[.int .u32 (o3 : Int), .int .i64 s3, .bool u3, .slice A13 n13 c13, .int .i64 c3, .slice A23 1 c23] 34))⟩)
  case rest =>
    obtain ⟨rfl, rfl, g7, o3, s3, u3, A13, n13, c13, c3, A23, c23, rfl, hLK, hOK, hBy⟩ := hcut
    have LK := Lib.hid hLK
    have OR := Lib.hid hOK
    have LF := Lib.hid (LF4.out.below hBy LF4.out.lt)
    have HFx := Lib.hid (HF.out.below hBy)
    have HB := Lib.hid (HB4.out.trans (hBy.mono HB4.out.size))
    clear hLK hOK hBy D3 LF4 HF HB4 u0 u1 hgF HGF Z
    generalize wc = x3 at *
    have D4 := Lib.hid (fun W (hb : Below x3.heap.size x3 W) Q q (hN : EntV W (stN 2 1 0 false [98]) none Q 0 q) => C4.out W A c Q q (HFx.out.below hb) hN)
    go_wp2_with fail
    have Z := Lib.hid (Below.refl x3.heap.size x3)
    obtain ⟨u0, u1⟩ := LF.out.cells2
    have hgF : x3.heap.size ≠ g4 := Nat.ne_of_gt LF.out.lt
    have HGF := Lib.hid LF.out.lt
    go_cut [11] (fun s W => s = .int .i64 80 ∧ Below x3.heap.size x3 W)
    case first =>
      as_aux_lemma =>
        go_region_held3 (fun W => W.cell? ⟨g4, 0, none⟩ = some (.int .u32 2) ∧ W.cell? ⟨g4, 1, none⟩ = some (.slice A 1 c)) (first | (with_reducible exact ⟨u0, u1⟩) | go_keep)
          (first
          | (go_at_call 31; (with_reducible refine (S4.out x3.drew).mono ?_); (rintro x wa ⟨Q, q, rfl, hN, hb⟩); (have HNa := Lib.hid hN); (have Z := Lib.hid (Z.out.drew.trans (hb.mono Z.out.size))); (clear u0 u1); (obtain ⟨u0, u1⟩ := (Lies.below LF.out Z.out (Lies.lt LF.out)).cells2); (have hgA : wa.heap.size ≠ g4 := Nat.ne_of_gt (Nat.lt_of_lt_of_le HGF.out Z.out.size)); (clear hN hb))
          | (go_at_call 31; (with_reducible refine (S4.out (x3.alloc (.cells #[.int .u32 0, .int .i64 0, .bool false, .slice none 0 0, .int .i64 0, .slice none 0 0] 34)).drew).mono ?_); (rintro x wa ⟨Q, q, rfl, hN, hb⟩); (have HNa := Lib.hid hN); (have Z := Lib.hid ((Z.out.alloc Z.out.size (.cells #[.int .u32 0, .int .i64 0, .bool false, .slice none 0 0, .int .i64 0, .slice none 0 0] 34)).drew.trans (hb.mono (by simp)))); (clear u0 u1); (obtain ⟨u0, u1⟩ := (Lies.below LF.out Z.out (Lies.lt LF.out)).cells2); (have LZ1 := Lib.hid (Lies.below (Lies.drew (Lies.made x3 34 #[.int .u32 0, .int .i64 0, .bool false, .slice none 0 0, .int .i64 0, .slice none 0 0])) hb (Lies.lt (Lies.made x3 34 #[.int .u32 0, .int .i64 0, .bool false, .slice none 0 0, .int .i64 0, .slice none 0 0])))); (have GZ := Lib.hid (Nat.le_refl x3.heap.size)); (clear hN hb))
          | (go_at_call 14; (with_reducible refine (D4.out wa Z.out Q q HNa.out).mono ?_); (rintro x wb ⟨a4, e4, o4, s4, u4, A14, n14, c14, c4, A24, c24, r4, rfl, hB4, hb, rfl⟩); (have LZ2 := Lib.hid (Lies.below LZ1.out hb (Lies.lt LZ1.out))); (obtain ⟨zc0, zc1, zc2, zc3, zc4, zc5⟩ := LZ2.out.cells6); (obtain ⟨zf0, zf1, zf2, zf3, zf4, zf5⟩ := LZ2.out.free6); (have Z := Lib.hid (Z.out.trans (hb.mono Z.out.size))); (clear u0 u1); (obtain ⟨u0, u1⟩ := (Lies.below LF.out Z.out (Lies.lt LF.out)).cells2); (have hgB : wb.heap.size ≠ g4 := Nat.ne_of_gt (Nat.lt_of_lt_of_le HGF.out Z.out.size)); (clear hB4); (clear hb))
          | (go_at_call 14; (with_reducible refine (D4.out (wa.alloc (.cells #[.int .u32 0, .int .i64 0, .bool false, .slice none 0 0, .int .i64 0, .slice none 0 0] 34)) (Z.out.alloc Z.out.size (.cells #[.int .u32 0, .int .i64 0, .bool false, .slice none 0 0, .int .i64 0, .slice none 0 0] 34)) Q q (HNa.out.below (below1 wa (.cells #[.int .u32 0, .int .i64 0, .bool false, .slice none 0 0, .int .i64 0, .slice none 0 0] 34)))).mono ?_); (rintro x wb ⟨a4, e4, o4, s4, u4, A14, n14, c14, c4, A24, c24, r4, rfl, hB4, hb, rfl⟩); (have LZ2 := Lib.hid (Lies.below (Lies.made wa 34 #[.int .u32 0, .int .i64 0, .bool false, .slice none 0 0, .int .i64 0, .slice none 0 0]) hb (Lies.lt (Lies.made wa 34 #[.int .u32 0, .int .i64 0, .bool false, .slice none 0 0, .int .i64 0, .slice none 0 0])))); (have GZ := Lib.hid Z.out.size); (obtain ⟨zc0, zc1, zc2, zc3, zc4, zc5⟩ := LZ2.out.cells6); (obtain ⟨zf0, zf1, zf2, zf3, zf4, zf5⟩ := LZ2.out.free6); (have Z := Lib.hid ((Z.out.alloc Z.out.size (.cells #[.int .u32 0, .int .i64 0, .bool false, .slice none 0 0, .int .i64 0, .slice none 0 0] 34)).trans (hb.mono (Z.out.alloc Z.out.size (.cells #[.int .u32 0, .int .i64 0, .bool false, .slice none 0 0, .int .i64 0, .slice none 0 0] 34)).size))); (clear u0 u1); (obtain ⟨u0, u1⟩ := (Lies.below LF.out Z.out (Lies.lt LF.out)).cells2); (have hgB : wb.heap.size ≠ g4 := Nat.ne_of_gt (Nat.lt_of_lt_of_le HGF.out Z.out.size)); (clear hB4); (clear hb))
          | (go_at_call 14; (with_reducible refine (D4.out wa Z.out Q q HNa.out).mono ?_); (rintro x wb ⟨a4, e4, o4, s4, u4, A14, n14, c14, c4, A24, c24, r4, rfl, hB4, hb, rfl⟩); (have Z := Lib.hid (Z.out.trans (hb.mono Z.out.size))); (clear u0 u1); (obtain ⟨u0, u1⟩ := (Lies.below LF.out Z.out (Lies.lt LF.out)).cells2); (have hgB : wb.heap.size ≠ g4 := Nat.ne_of_gt (Nat.lt_of_lt_of_le HGF.out Z.out.size)); (clear hB4); (clear hb)))
        all_goals
          go_wp2_with fail
          go_meet
          first
          | (with_reducible exact ⟨rfl, (below_put6 Z.out GZ.out _ _ _ _ _ _)⟩)
          | (with_reducible exact ⟨rfl, (Z.out.alloc Z.out.size (.cells #[.int .u32 (o4 : Int), .int .i64 s4, .bool u4, .slice A14 n14 c14, .int .i64 c4, .slice A24 r4.length c24] 34))⟩)
    case rest =>
      obtain ⟨rfl, hBy⟩ := hcut
      generalize wc = x4 at *
      have LK2 := Lib.hid (LK.out.below hBy LK.out.lt)
      have OR2 := Lib.hid (OR.out.belowOwn hBy)
      have LF2 := Lib.hid (LF.out.below hBy LF.out.lt)
      have HF2 := Lib.hid (HFx.out.below hBy)
      have HB2 := Lib.hid (HB.out.trans (hBy.mono HB.out.size))
      clear hBy D4 u0 u1 hgF HGF Z LK OR LF HFx HB
      have LK := LK2
      have OR := OR2
      have LF := LF2
      have HFx := HF2
      have HB := HB2
      clear LK2 OR2 LF2 HF2 HB2
      have D5 := Lib.hid (fun W (hb : Below x4.heap.size x4 W) Q q (hN : EntV W (stN 1 1 0 false [97]) none Q 0 q) => C5.out W A c Q q (HFx.out.below hb) hN)
      go_wp2_with fail
      have Z := Lib.hid (Below.refl x4.heap.size x4)
      obtain ⟨u0, u1⟩ := LF.out.cells2
      have hgF : x4.heap.size ≠ g4 := Nat.ne_of_gt LF.out.lt
      have HGF := Lib.hid LF.out.lt
      go_cut [14] (fun s W => s = .int .i64 72 ∧ Below x4.heap.size x4 W)
      case first =>
        as_aux_lemma =>
          go_region_held3 (fun W => W.cell? ⟨g4, 0, none⟩ = some (.int .u32 2) ∧ W.cell? ⟨g4, 1, none⟩ = some (.slice A 1 c)) (first | (with_reducible exact ⟨u0, u1⟩) | go_keep)
            (first
            | (go_at_call 31; (with_reducible refine (S5.out x4.drew).mono ?_); (rintro x wa ⟨Q, q, rfl, hN, hb⟩); (have HNa := Lib.hid hN); (have Z := Lib.hid (Z.out.drew.trans (hb.mono Z.out.size))); (clear u0 u1); (obtain ⟨u0, u1⟩ := (Lies.below LF.out Z.out (Lies.lt LF.out)).cells2); (have hgA : wa.heap.size ≠ g4 := Nat.ne_of_gt (Nat.lt_of_lt_of_le HGF.out Z.out.size)); (clear hN hb))
            | (go_at_call 31; (with_reducible refine (S5.out (x4.alloc (.cells #[.int .u32 0, .int .i64 0, .bool false, .slice none 0 0, .int .i64 0, .slice none 0 0] 34)).drew).mono ?_); (rintro x wa ⟨Q, q, rfl, hN, hb⟩); (have HNa := Lib.hid hN); (have Z := Lib.hid ((Z.out.alloc Z.out.size (.cells #[.int .u32 0, .int .i64 0, .bool false, .slice none 0 0, .int .i64 0, .slice none 0 0] 34)).drew.trans (hb.mono (by simp)))); (clear u0 u1); (obtain ⟨u0, u1⟩ := (Lies.below LF.out Z.out (Lies.lt LF.out)).cells2); (have LZ1 := Lib.hid (Lies.below (Lies.drew (Lies.made x4 34 #[.int .u32 0, .int .i64 0, .bool false, .slice none 0 0, .int .i64 0, .slice none 0 0])) hb (Lies.lt (Lies.made x4 34 #[.int .u32 0, .int .i64 0, .bool false, .slice none 0 0, .int .i64 0, .slice none 0 0])))); (have GZ := Lib.hid (Nat.le_refl x4.heap.size)); (clear hN hb))
            | (go_at_call 14; (with_reducible refine (D5.out wa Z.out Q q HNa.out).mono ?_); (rintro x wb ⟨a5, e5, o5, s5, u5, A15, n15, c15, c5, A25, c25, r5, rfl, hB5, hb, rfl⟩); (have LZ2 := Lib.hid (Lies.below LZ1.out hb (Lies.lt LZ1.out))); (obtain ⟨zc0, zc1, zc2, zc3, zc4, zc5⟩ := LZ2.out.cells6); (obtain ⟨zf0, zf1, zf2, zf3, zf4, zf5⟩ := LZ2.out.free6); (have Z := Lib.hid (Z.out.trans (hb.mono Z.out.size))); (clear u0 u1); (obtain ⟨u0, u1⟩ := (Lies.below LF.out Z.out (Lies.lt LF.out)).cells2); (have hgB : wb.heap.size ≠ g4 := Nat.ne_of_gt (Nat.lt_of_lt_of_le HGF.out Z.out.size)); (clear hB5); (clear hb))
            | (go_at_call 14; (with_reducible refine (D5.out (wa.alloc (.cells #[.int .u32 0, .int .i64 0, .bool false, .slice none 0 0, .int .i64 0, .slice none 0 0] 34)) (Z.out.alloc Z.out.size (.cells #[.int .u32 0, .int .i64 0, .bool false, .slice none 0 0, .int .i64 0, .slice none 0 0] 34)) Q q (HNa.out.below (below1 wa (.cells #[.int .u32 0, .int .i64 0, .bool false, .slice none 0 0, .int .i64 0, .slice none 0 0] 34)))).mono ?_); (rintro x wb ⟨a5, e5, o5, s5, u5, A15, n15, c15, c5, A25, c25, r5, rfl, hB5, hb, rfl⟩); (have LZ2 := Lib.hid (Lies.below (Lies.made wa 34 #[.int .u32 0, .int .i64 0, .bool false, .slice none 0 0, .int .i64 0, .slice none 0 0]) hb (Lies.lt (Lies.made wa 34 #[.int .u32 0, .int .i64 0, .bool false, .slice none 0 0, .int .i64 0, .slice none 0 0])))); (have GZ := Lib.hid Z.out.size); (obtain ⟨zc0, zc1, zc2, zc3, zc4, zc5⟩ := LZ2.out.cells6); (obtain ⟨zf0, zf1, zf2, zf3, zf4, zf5⟩ := LZ2.out.free6); (have Z := Lib.hid ((Z.out.alloc Z.out.size (.cells #[.int .u32 0, .int .i64 0, .bool false, .slice none 0 0, .int .i64 0, .slice none 0 0] 34)).trans (hb.mono (Z.out.alloc Z.out.size (.cells #[.int .u32 0, .int .i64 0, .bool false, .slice none 0 0, .int .i64 0, .slice none 0 0] 34)).size))); (clear u0 u1); (obtain ⟨u0, u1⟩ := (Lies.below LF.out Z.out (Lies.lt LF.out)).cells2); (have hgB : wb.heap.size ≠ g4 := Nat.ne_of_gt (Nat.lt_of_lt_of_le HGF.out Z.out.size)); (clear hB5); (clear hb))
            | (go_at_call 14; (with_reducible refine (D5.out wa Z.out Q q HNa.out).mono ?_); (rintro x wb ⟨a5, e5, o5, s5, u5, A15, n15, c15, c5, A25, c25, r5, rfl, hB5, hb, rfl⟩); (have Z := Lib.hid (Z.out.trans (hb.mono Z.out.size))); (clear u0 u1); (obtain ⟨u0, u1⟩ := (Lies.below LF.out Z.out (Lies.lt LF.out)).cells2); (have hgB : wb.heap.size ≠ g4 := Nat.ne_of_gt (Nat.lt_of_lt_of_le HGF.out Z.out.size)); (clear hB5); (clear hb)))
          all_goals
            go_wp2_with fail
            go_meet
            first
            | (with_reducible exact ⟨rfl, (below_put6 Z.out GZ.out _ _ _ _ _ _)⟩)
            | (with_reducible exact ⟨rfl, (Z.out.alloc Z.out.size (.cells #[.int .u32 (o5 : Int), .int .i64 s5, .bool u5, .slice A15 n15 c15, .int .i64 c5, .slice A25 r5.length c25] 34))⟩)
      case rest =>
        obtain ⟨rfl, hBy⟩ := hcut
        generalize wc = x5 at *
        have LK2 := Lib.hid (LK.out.below hBy LK.out.lt)
        have OR2 := Lib.hid (OR.out.belowOwn hBy)
        have LF2 := Lib.hid (LF.out.below hBy LF.out.lt)
        have HF2 := Lib.hid (HFx.out.below hBy)
        have HB2 := Lib.hid (HB.out.trans (hBy.mono HB.out.size))
        clear hBy D5 u0 u1 hgF HGF Z LK OR LF HFx HB
        have LK := LK2
        have OR := OR2
        have LF := LF2
        have HFx := HF2
        have HB := HB2
        clear LK2 OR2 LF2 HF2 HB2
        have D6 := Lib.hid (fun W (hb : Below x5.heap.size x5 W) Q q (hN : EntV W (stN 2 1 0 true []) none Q 0 q) => C6.out W A c Q q (HFx.out.below hb) hN)
        go_wp2_with fail
        have Z := Lib.hid (Below.refl x5.heap.size x5)
        obtain ⟨u0, u1⟩ := LF.out.cells2
        have hgF : x5.heap.size ≠ g4 := Nat.ne_of_gt LF.out.lt
        have HGF := Lib.hid LF.out.lt
        go_cut [15] (fun s W => s = .int .i64 1 ∧ Below x5.heap.size x5 W)
        case first =>
          as_aux_lemma =>
            go_region_held3 (fun W => W.cell? ⟨g4, 0, none⟩ = some (.int .u32 2) ∧ W.cell? ⟨g4, 1, none⟩ = some (.slice A 1 c)) (first | (with_reducible exact ⟨u0, u1⟩) | go_keep)
              (first
              | (go_at_call 31; (with_reducible refine (S6.out x5.drew).mono ?_); (rintro x wa ⟨Q, q, rfl, hN, hb⟩); (have HNa := Lib.hid hN); (have Z := Lib.hid (Z.out.drew.trans (hb.mono Z.out.size))); (clear u0 u1); (obtain ⟨u0, u1⟩ := (Lies.below LF.out Z.out (Lies.lt LF.out)).cells2); (have hgA : wa.heap.size ≠ g4 := Nat.ne_of_gt (Nat.lt_of_lt_of_le HGF.out Z.out.size)); (clear hN hb))
              | (go_at_call 31; (with_reducible refine (S6.out (x5.alloc (.cells #[.int .u32 0, .int .i64 0, .bool false, .slice none 0 0, .int .i64 0, .slice none 0 0] 34)).drew).mono ?_); (rintro x wa ⟨Q, q, rfl, hN, hb⟩); (have HNa := Lib.hid hN); (have Z := Lib.hid ((Z.out.alloc Z.out.size (.cells #[.int .u32 0, .int .i64 0, .bool false, .slice none 0 0, .int .i64 0, .slice none 0 0] 34)).drew.trans (hb.mono (by simp)))); (clear u0 u1); (obtain ⟨u0, u1⟩ := (Lies.below LF.out Z.out (Lies.lt LF.out)).cells2); (have LZ1 := Lib.hid (Lies.below (Lies.drew (Lies.made x5 34 #[.int .u32 0, .int .i64 0, .bool false, .slice none 0 0, .int .i64 0, .slice none 0 0])) hb (Lies.lt (Lies.made x5 34 #[.int .u32 0, .int .i64 0, .bool false, .slice none 0 0, .int .i64 0, .slice none 0 0])))); (have GZ := Lib.hid (Nat.le_refl x5.heap.size)); (clear hN hb))
              | (go_at_call 14; (with_reducible refine (D6.out wa Z.out Q q HNa.out).mono ?_); (rintro x wb ⟨a6, e6, o6, s6, u6, A16, n16, c16, c6, A26, c26, r6, rfl, hB6, hb, rfl⟩); (have LZ2 := Lib.hid (Lies.below LZ1.out hb (Lies.lt LZ1.out))); (obtain ⟨zc0, zc1, zc2, zc3, zc4, zc5⟩ := LZ2.out.cells6); (obtain ⟨zf0, zf1, zf2, zf3, zf4, zf5⟩ := LZ2.out.free6); (have Z := Lib.hid (Z.out.trans (hb.mono Z.out.size))); (clear u0 u1); (obtain ⟨u0, u1⟩ := (Lies.below LF.out Z.out (Lies.lt LF.out)).cells2); (have hgB : wb.heap.size ≠ g4 := Nat.ne_of_gt (Nat.lt_of_lt_of_le HGF.out Z.out.size)); (clear hB6); (clear hb))
              | (go_at_call 14; (with_reducible refine (D6.out (wa.alloc (.cells #[.int .u32 0, .int .i64 0, .bool false, .slice none 0 0, .int .i64 0, .slice none 0 0] 34)) (Z.out.alloc Z.out.size (.cells #[.int .u32 0, .int .i64 0, .bool false, .slice none 0 0, .int .i64 0, .slice none 0 0] 34)) Q q (HNa.out.below (below1 wa (.cells #[.int .u32 0, .int .i64 0, .bool false, .slice none 0 0, .int .i64 0, .slice none 0 0] 34)))).mono ?_); (rintro x wb ⟨a6, e6, o6, s6, u6, A16, n16, c16, c6, A26, c26, r6, rfl, hB6, hb, rfl⟩); (have LZ2 := Lib.hid (Lies.below (Lies.made wa 34 #[.int .u32 0, .int .i64 0, .bool false, .slice none 0 0, .int .i64 0, .slice none 0 0]) hb (Lies.lt (Lies.made wa 34 #[.int .u32 0, .int .i64 0, .bool false, .slice none 0 0, .int .i64 0, .slice none 0 0])))); (have GZ := Lib.hid Z.out.size); (obtain ⟨zc0, zc1, zc2, zc3, zc4, zc5⟩ := LZ2.out.cells6); (obtain ⟨zf0, zf1, zf2, zf3, zf4, zf5⟩ := LZ2.out.free6); (have Z := Lib.hid ((Z.out.alloc Z.out.size (.cells #[.int .u32 0, .int .i64 0, .bool false, .slice none 0 0, .int .i64 0, .slice none 0 0] 34)).trans (hb.mono (Z.out.alloc Z.out.size (.cells #[.int .u32 0, .int .i64 0, .bool false, .slice none 0 0, .int .i64 0, .slice none 0 0] 34)).size))); (clear u0 u1); (obtain ⟨u0, u1⟩ := (Lies.below LF.out Z.out (Lies.lt LF.out)).cells2); (have hgB : wb.heap.size ≠ g4 := Nat.ne_of_gt (Nat.lt_of_lt_of_le HGF.out Z.out.size)); (clear hB6); (clear hb))
              | (go_at_call 14; (with_reducible refine (D6.out wa Z.out Q q HNa.out).mono ?_); (rintro x wb ⟨a6, e6, o6, s6, u6, A16, n16, c16, c6, A26, c26, r6, rfl, hB6, hb, rfl⟩); (have Z := Lib.hid (Z.out.trans (hb.mono Z.out.size))); (clear u0 u1); (obtain ⟨u0, u1⟩ := (Lies.below LF.out Z.out (Lies.lt LF.out)).cells2); (have hgB : wb.heap.size ≠ g4 := Nat.ne_of_gt (Nat.lt_of_lt_of_le HGF.out Z.out.size)); (clear hB6); (clear hb)))
            all_goals
              go_wp2_with fail
              go_meet
              first
              | (with_reducible exact ⟨rfl, (below_put6 Z.out GZ.out _ _ _ _ _ _)⟩)
              | (with_reducible exact ⟨rfl, (Z.out.alloc Z.out.size (.cells #[.int .u32 (o6 : Int), .int .i64 s6, .bool u6, .slice A16 n16 c16, .int .i64 c6, .slice A26 r6.length c26] 34))⟩)
        case rest =>
          obtain ⟨rfl, hBy⟩ := hcut
          generalize wc = x6 at *
          have LK2 := Lib.hid (LK.out.below hBy LK.out.lt)
          have OR2 := Lib.hid (OR.out.belowOwn hBy)
          have LF2 := Lib.hid (LF.out.below hBy LF.out.lt)
          have HF2 := Lib.hid (HFx.out.below hBy)
          have HB2 := Lib.hid (HB.out.trans (hBy.mono HB.out.size))
          clear hBy D6 u0 u1 hgF HGF Z LK OR LF HFx HB
          have LK := LK2
          have OR := OR2
          have LF := LF2
          have HFx := HF2
          have HB := HB2
          clear LK2 OR2 LF2 HF2 HB2
          have D7 := Lib.hid (fun W (hb : Below x6.heap.size x6 W) Q q (hN : EntV W (stN 2 1 1 true []) none Q 0 q) => C7.out W A c Q q (HFx.out.below hb) hN)
          go_wp2_with fail
          have Z := Lib.hid (Below.refl x6.heap.size x6)
          obtain ⟨u0, u1⟩ := LF.out.cells2
          have hgF : x6.heap.size ≠ g4 := Nat.ne_of_gt LF.out.lt
          have HGF := Lib.hid LF.out.lt
          go_cut [18] (fun s W => s = .int .i64 4 ∧ Below x6.heap.size x6 W)
          case first =>
            as_aux_lemma =>
              go_region_held3 (fun W => W.cell? ⟨g4, 0, none⟩ = some (.int .u32 2) ∧ W.cell? ⟨g4, 1, none⟩ = some (.slice A 1 c)) (first | (with_reducible exact ⟨u0, u1⟩) | go_keep)
                (first
                | (go_at_call 31; (with_reducible refine (S7.out x6.drew).mono ?_); (rintro x wa ⟨Q, q, rfl, hN, hb⟩); (have HNa := Lib.hid hN); (have Z := Lib.hid (Z.out.drew.trans (hb.mono Z.out.size))); (clear u0 u1); (obtain ⟨u0, u1⟩ := (Lies.below LF.out Z.out (Lies.lt LF.out)).cells2); (have hgA : wa.heap.size ≠ g4 := Nat.ne_of_gt (Nat.lt_of_lt_of_le HGF.out Z.out.size)); (clear hN hb))
                | (go_at_call 31; (with_reducible refine (S7.out (x6.alloc (.cells #[.int .u32 0, .int .i64 0, .bool false, .slice none 0 0, .int .i64 0, .slice none 0 0] 34)).drew).mono ?_); (rintro x wa ⟨Q, q, rfl, hN, hb⟩); (have HNa := Lib.hid hN); (have Z := Lib.hid ((Z.out.alloc Z.out.size (.cells #[.int .u32 0, .int .i64 0, .bool false, .slice none 0 0, .int .i64 0, .slice none 0 0] 34)).drew.trans (hb.mono (by simp)))); (clear u0 u1); (obtain ⟨u0, u1⟩ := (Lies.below LF.out Z.out (Lies.lt LF.out)).cells2); (have LZ1 := Lib.hid (Lies.below (Lies.drew (Lies.made x6 34 #[.int .u32 0, .int .i64 0, .bool false, .slice none 0 0, .int .i64 0, .slice none 0 0])) hb (Lies.lt (Lies.made x6 34 #[.int .u32 0, .int .i64 0, .bool false, .slice none 0 0, .int .i64 0, .slice none 0 0])))); (have GZ := Lib.hid (Nat.le_refl x6.heap.size)); (clear hN hb))
                | (go_at_call 14; (with_reducible refine (D7.out wa Z.out Q q HNa.out).mono ?_); (rintro x wb ⟨a7, e7, o7, s7, u7, A17, n17, c17, c7, A27, c27, r7, rfl, hB7, hb, rfl⟩); (have LZ2 := Lib.hid (Lies.below LZ1.out hb (Lies.lt LZ1.out))); (obtain ⟨zc0, zc1, zc2, zc3, zc4, zc5⟩ := LZ2.out.cells6); (obtain ⟨zf0, zf1, zf2, zf3, zf4, zf5⟩ := LZ2.out.free6); (have Z := Lib.hid (Z.out.trans (hb.mono Z.out.size))); (clear u0 u1); (obtain ⟨u0, u1⟩ := (Lies.below LF.out Z.out (Lies.lt LF.out)).cells2); (have hgB : wb.heap.size ≠ g4 := Nat.ne_of_gt (Nat.lt_of_lt_of_le HGF.out Z.out.size)); (clear hB7); (clear hb))
                | (go_at_call 14; (with_reducible refine (D7.out (wa.alloc (.cells #[.int .u32 0, .int .i64 0, .bool false, .slice none 0 0, .int .i64 0, .slice none 0 0] 34)) (Z.out.alloc Z.out.size (.cells #[.int .u32 0, .int .i64 0, .bool false, .slice none 0 0, .int .i64 0, .slice none 0 0] 34)) Q q (HNa.out.below (below1 wa (.cells #[.int .u32 0, .int .i64 0, .bool false, .slice none 0 0, .int .i64 0, .slice none 0 0] 34)))).mono ?_); (rintro x wb ⟨a7, e7, o7, s7, u7, A17, n17, c17, c7, A27, c27, r7, rfl, hB7, hb, rfl⟩); (have LZ2 := Lib.hid (Lies.below (Lies.made wa 34 #[.int .u32 0, .int .i64 0, .bool false, .slice none 0 0, .int .i64 0, .slice none 0 0]) hb (Lies.lt (Lies.made wa 34 #[.int .u32 0, .int .i64 0, .bool false, .slice none 0 0, .int .i64 0, .slice none 0 0])))); (have GZ := Lib.hid Z.out.size); (obtain ⟨zc0, zc1, zc2, zc3, zc4, zc5⟩ := LZ2.out.cells6); (obtain ⟨zf0, zf1, zf2, zf3, zf4, zf5⟩ := LZ2.out.free6); (have Z := Lib.hid ((Z.out.alloc Z.out.size (.cells #[.int .u32 0, .int .i64 0, .bool false, .slice none 0 0, .int .i64 0, .slice none 0 0] 34)).trans (hb.mono (Z.out.alloc Z.out.size (.cells #[.int .u32 0, .int .i64 0, .bool false, .slice none 0 0, .int .i64 0, .slice none 0 0] 34)).size))); (clear u0 u1); (obtain ⟨u0, u1⟩ := (Lies.below LF.out Z.out (Lies.lt LF.out)).cells2); (have hgB : wb.heap.size ≠ g4 := Nat.ne_of_gt (Nat.lt_of_lt_of_le HGF.out Z.out.size)); (clear hB7); (clear hb))
                | (go_at_call 14; (with_reducible refine (D7.out wa Z.out Q q HNa.out).mono ?_); (rintro x wb ⟨a7, e7, o7, s7, u7, A17, n17, c17, c7, A27, c27, r7, rfl, hB7, hb, rfl⟩); (have Z := Lib.hid (Z.out.trans (hb.mono Z.out.size))); (clear u0 u1); (obtain ⟨u0, u1⟩ := (Lies.below LF.out Z.out (Lies.lt LF.out)).cells2); (have hgB : wb.heap.size ≠ g4 := Nat.ne_of_gt (Nat.lt_of_lt_of_le HGF.out Z.out.size)); (clear hB7); (clear hb)))
              all_goals
                go_wp2_with fail
                go_meet
                first
                | (with_reducible exact ⟨rfl, (below_put6 Z.out GZ.out _ _ _ _ _ _)⟩)
                | (with_reducible exact ⟨rfl, (Z.out.alloc Z.out.size (.cells #[.int .u32 (o7 : Int), .int .i64 s7, .bool u7, .slice A17 n17 c17, .int .i64 c7, .slice A27 r7.length c27] 34))⟩)
          case rest =>
            obtain ⟨rfl, hBy⟩ := hcut
            generalize wc = x7 at *
            have LK2 := Lib.hid (LK.out.below hBy LK.out.lt)
            have OR2 := Lib.hid (OR.out.belowOwn hBy)
            have LF2 := Lib.hid (LF.out.below hBy LF.out.lt)
            have HF2 := Lib.hid (HFx.out.below hBy)
            have HB2 := Lib.hid (HB.out.trans (hBy.mono HB.out.size))
            clear hBy D7 u0 u1 hgF HGF Z LK OR LF HFx HB
            have LK := LK2
            have OR := OR2
            have LF := LF2
            have HFx := HF2
            have HB := HB2
            clear LK2 OR2 LF2 HF2 HB2
            have D8 := Lib.hid (fun W (hb : Below x7.heap.size x7 W) Q q (hN : EntV W (stN 3 1 1 true []) none Q 0 q) => K8.out W A c Q q (HFx.out.below hb) hN)
            go_wp2_with fail
            have Z := Lib.hid (Below.refl x7.heap.size x7)
            obtain ⟨u0, u1⟩ := LF.out.cells2
            have hgF : x7.heap.size ≠ g4 := Nat.ne_of_gt LF.out.lt
            have HGF := Lib.hid LF.out.lt
            go_cut [21, 22] (fun s21 s22 W => s22 = .int .i64 0 ∧ ∃ g A8 c8 X, s21 = .pointer (some ⟨g, 0, none⟩) ∧ Lies W g 25 #[.int .u32 3, .slice A8 2 c8] ∧ NF W 0 (.slice A8 2 c8) 2 X ∧ (∀ i, i < 2 → (X i).k = F2.T i) ∧ Below x7.heap.size x7 W)
            case first =>
              as_aux_lemma =>
                go_region_held3 (fun W => W.cell? ⟨g4, 0, none⟩ = some (.int .u32 2) ∧ W.cell? ⟨g4, 1, none⟩ = some (.slice A 1 c)) (first | (with_reducible exact ⟨u0, u1⟩) | go_keep)
                  (first
                  | (go_at_call 31; (with_reducible refine (S8.out x7.drew).mono ?_); (rintro x wa ⟨Q, q, rfl, hN, hb⟩); (have HNa := Lib.hid hN); (have Z := Lib.hid (Z.out.drew.trans (hb.mono Z.out.size))); (clear u0 u1); (obtain ⟨u0, u1⟩ := (Lies.below LF.out Z.out (Lies.lt LF.out)).cells2); (have hgA : wa.heap.size ≠ g4 := Nat.ne_of_gt (Nat.lt_of_lt_of_le HGF.out Z.out.size)); (clear hN hb))
                  | (go_at_call 31; (with_reducible refine (S8.out (x7.alloc (.cells #[.int .u32 0, .slice none 0 0] 25)).drew).mono ?_); (rintro x wa ⟨Q, q, rfl, hN, hb⟩); (have HNa := Lib.hid hN); (have Z := Lib.hid ((Z.out.alloc Z.out.size (.cells #[.int .u32 0, .slice none 0 0] 25)).drew.trans (hb.mono (by simp)))); (clear u0 u1); (obtain ⟨u0, u1⟩ := (Lies.below LF.out Z.out (Lies.lt LF.out)).cells2); (have LZ1 := Lib.hid (Lies.below (Lies.drew (Lies.made x7 25 #[.int .u32 0, .slice none 0 0])) hb (Lies.lt (Lies.made x7 25 #[.int .u32 0, .slice none 0 0])))); (have GZ := Lib.hid (Nat.le_refl x7.heap.size)); (clear hN hb))
                  | (go_at_call 26; (with_reducible refine (D8.out wa Z.out Q q HNa.out).mono ?_); (rintro x wb ⟨A8, c8, X8, rfl, hnf, hxk, hb⟩); (have LZ2 := Lib.hid (Lies.below LZ1.out hb (Lies.lt LZ1.out))); (obtain ⟨zc0, zc1⟩ := LZ2.out.cells2); (obtain ⟨zf0, zf1⟩ := LZ2.out.free2); (have Z := Lib.hid (Z.out.trans (hb.mono Z.out.size))); (clear u0 u1); (obtain ⟨u0, u1⟩ := (Lies.below LF.out Z.out (Lies.lt LF.out)).cells2); (have hgB : wb.heap.size ≠ g4 := Nat.ne_of_gt (Nat.lt_of_lt_of_le HGF.out Z.out.size)); (have NF8 := Lib.hid (hnf.mono (Nat.zero_le _))); (have HX8 := Lib.hid hxk); (clear hnf hxk); (clear hb))
                  | (go_at_call 26; (with_reducible refine (D8.out (wa.alloc (.cells #[.int .u32 0, .slice none 0 0] 25)) (Z.out.alloc Z.out.size (.cells #[.int .u32 0, .slice none 0 0] 25)) Q q (HNa.out.below (below1 wa (.cells #[.int .u32 0, .slice none 0 0] 25)))).mono ?_); (rintro x wb ⟨A8, c8, X8, rfl, hnf, hxk, hb⟩); (have LZ2 := Lib.hid (Lies.below (Lies.made wa 25 #[.int .u32 0, .slice none 0 0]) hb (Lies.lt (Lies.made wa 25 #[.int .u32 0, .slice none 0 0])))); (have GZ := Lib.hid Z.out.size); (obtain ⟨zc0, zc1⟩ := LZ2.out.cells2); (obtain ⟨zf0, zf1⟩ := LZ2.out.free2); (have Z := Lib.hid ((Z.out.alloc Z.out.size (.cells #[.int .u32 0, .slice none 0 0] 25)).trans (hb.mono (Z.out.alloc Z.out.size (.cells #[.int .u32 0, .slice none 0 0] 25)).size))); (clear u0 u1); (obtain ⟨u0, u1⟩ := (Lies.below LF.out Z.out (Lies.lt LF.out)).cells2); (have hgB : wb.heap.size ≠ g4 := Nat.ne_of_gt (Nat.lt_of_lt_of_le HGF.out Z.out.size)); (have NF8 := Lib.hid (hnf.mono (Nat.zero_le _))); (have HX8 := Lib.hid hxk); (clear hnf hxk); (clear hb))
                  | (go_at_call 26; (with_reducible refine (D8.out wa Z.out Q q HNa.out).mono ?_); (rintro x wb ⟨A8, c8, X8, rfl, hnf, hxk, hb⟩); (have Z := Lib.hid (Z.out.trans (hb.mono Z.out.size))); (clear u0 u1); (obtain ⟨u0, u1⟩ := (Lies.below LF.out Z.out (Lies.lt LF.out)).cells2); (have hgB : wb.heap.size ≠ g4 := Nat.ne_of_gt (Nat.lt_of_lt_of_le HGF.out Z.out.size)); (have NF8 := Lib.hid (hnf.mono (Nat.zero_le _))); (have HX8 := Lib.hid hxk); (clear hnf hxk); (clear hb)))
                all_goals
                  go_wp2_with fail
                  go_meet
                  first
                  | (with_reducible exact ⟨rfl, _, _, _, X8, rfl, (Lies.put2 LZ2.out _ _), (NF.put2 NF8.out LZ2.out _ _), HX8.out, (below_put2 Z.out GZ.out _ _)⟩)
                  | (with_reducible exact ⟨rfl, _, _, _, X8, rfl, (Lies.made wb 25 #[.int .u32 3, .slice A8 2 c8]), (NF.below NF8.out (below1 _ _)), HX8.out, (Z.out.alloc Z.out.size (.cells #[.int .u32 3, .slice A8 2 c8] 25))⟩)
            case rest =>
              obtain ⟨rfl, g21, A8, c8, X8, rfl, hLG, hNF, hX8, hBy⟩ := hcut
              generalize wc = x8 at *
              have LG := Lib.hid hLG
              obtain ⟨A9, c9, z9, hfv⟩ := hNF.fv hX8
              injection z9 with z1 z2 z3
              subst z1 z3
              have HF8 := Lib.hid hfv
              have LK2 := Lib.hid (LK.out.below hBy LK.out.lt)
              have OR2 := Lib.hid (OR.out.belowOwn hBy)
              have HB2 := Lib.hid (HB.out.trans (hBy.mono HB.out.size))
              clear hBy D8 u0 u1 hgF HGF Z LK OR LF HFx HB hLG hNF hX8 hfv z2
              have LK := LK2
              have OR := OR2
              have HB := HB2
              clear LK2 OR2 HB2
              have D9 := Lib.hid (fun W (hb : Below x8.heap.size x8 W) Q q (hN : EntV W (stN 3 1 1 false [120]) none Q 0 q) => C9.out W A8 c8 Q q (HF8.out.below hb) hN)
              go_wp2_with fail
              have Z := Lib.hid (Below.refl x8.heap.size x8)
              obtain ⟨u0, u1⟩ := LG.out.cells2
              have hgF : x8.heap.size ≠ g21 := Nat.ne_of_gt LG.out.lt
              have HGF := Lib.hid LG.out.lt
              go_cut [23] (fun s W => s = .int .i64 3 ∧ Below x8.heap.size x8 W)
              case first =>
                as_aux_lemma =>
                  go_region_held3 (fun W => W.cell? ⟨g21, 0, none⟩ = some (.int .u32 3) ∧ W.cell? ⟨g21, 1, none⟩ = some (.slice A8 2 c8)) (first | (with_reducible exact ⟨u0, u1⟩) | go_keep)
                    (first
                    | (go_at_call 31; (with_reducible refine (S9.out x8.drew).mono ?_); (rintro x wa ⟨Q, q, rfl, hN, hb⟩); (have HNa := Lib.hid hN); (have Z := Lib.hid (Z.out.drew.trans (hb.mono Z.out.size))); (clear u0 u1); (obtain ⟨u0, u1⟩ := (Lies.below LG.out Z.out (Lies.lt LG.out)).cells2); (have hgA : wa.heap.size ≠ g21 := Nat.ne_of_gt (Nat.lt_of_lt_of_le HGF.out Z.out.size)); (clear hN hb))
                    | (go_at_call 31; (with_reducible refine (S9.out (x8.alloc (.cells #[.int .u32 0, .int .i64 0, .bool false, .slice none 0 0, .int .i64 0, .slice none 0 0] 34)).drew).mono ?_); (rintro x wa ⟨Q, q, rfl, hN, hb⟩); (have HNa := Lib.hid hN); (have Z := Lib.hid ((Z.out.alloc Z.out.size (.cells #[.int .u32 0, .int .i64 0, .bool false, .slice none 0 0, .int .i64 0, .slice none 0 0] 34)).drew.trans (hb.mono (by simp)))); (clear u0 u1); (obtain ⟨u0, u1⟩ := (Lies.below LG.out Z.out (Lies.lt LG.out)).cells2); (have LZ1 := Lib.hid (Lies.below (Lies.drew (Lies.made x8 34 #[.int .u32 0, .int .i64 0, .bool false, .slice none 0 0, .int .i64 0, .slice none 0 0])) hb (Lies.lt (Lies.made x8 34 #[.int .u32 0, .int .i64 0, .bool false, .slice none 0 0, .int .i64 0, .slice none 0 0])))); (have GZ := Lib.hid (Nat.le_refl x8.heap.size)); (clear hN hb))
                    | (go_at_call 14; (with_reducible refine (D9.out wa Z.out Q q HNa.out).mono ?_); (rintro x wb ⟨a9, e9, o9, s9, u9, A19, n19, c19, c9, A29, c29, r9, rfl, hB9, hb, rfl⟩); (have LZ2 := Lib.hid (Lies.below LZ1.out hb (Lies.lt LZ1.out))); (obtain ⟨zc0, zc1, zc2, zc3, zc4, zc5⟩ := LZ2.out.cells6); (obtain ⟨zf0, zf1, zf2, zf3, zf4, zf5⟩ := LZ2.out.free6); (have Z := Lib.hid (Z.out.trans (hb.mono Z.out.size))); (clear u0 u1); (obtain ⟨u0, u1⟩ := (Lies.below LG.out Z.out (Lies.lt LG.out)).cells2); (have hgB : wb.heap.size ≠ g21 := Nat.ne_of_gt (Nat.lt_of_lt_of_le HGF.out Z.out.size)); (clear hB9); (clear hb))
                    | (go_at_call 14; (with_reducible refine (D9.out (wa.alloc (.cells #[.int .u32 0, .int .i64 0, .bool false, .slice none 0 0, .int .i64 0, .slice none 0 0] 34)) (Z.out.alloc Z.out.size (.cells #[.int .u32 0, .int .i64 0, .bool false, .slice none 0 0, .int .i64 0, .slice none 0 0] 34)) Q q (HNa.out.below (below1 wa (.cells #[.int .u32 0, .int .i64 0, .bool false, .slice none 0 0, .int .i64 0, .slice none 0 0] 34)))).mono ?_); (rintro x wb ⟨a9, e9, o9, s9, u9, A19, n19, c19, c9, A29, c29, r9, rfl, hB9, hb, rfl⟩); (have LZ2 := Lib.hid (Lies.below (Lies.made wa 34 #[.int .u32 0, .int .i64 0, .bool false, .slice none 0 0, .int .i64 0, .slice none 0 0]) hb (Lies.lt (Lies.made wa 34 #[.int .u32 0, .int .i64 0, .bool false, .slice none 0 0, .int .i64 0, .slice none 0 0])))); (have GZ := Lib.hid Z.out.size); (obtain ⟨zc0, zc1, zc2, zc3, zc4, zc5⟩ := LZ2.out.cells6); (obtain ⟨zf0, zf1, zf2, zf3, zf4, zf5⟩ := LZ2.out.free6); (have Z := Lib.hid ((Z.out.alloc Z.out.size (.cells #[.int .u32 0, .int .i64 0, .bool false, .slice none 0 0, .int .i64 0, .slice none 0 0] 34)).trans (hb.mono (Z.out.alloc Z.out.size (.cells #[.int .u32 0, .int .i64 0, .bool false, .slice none 0 0, .int .i64 0, .slice none 0 0] 34)).size))); (clear u0 u1); (obtain ⟨u0, u1⟩ := (Lies.below LG.out Z.out (Lies.lt LG.out)).cells2); (have hgB : wb.heap.size ≠ g21 := Nat.ne_of_gt (Nat.lt_of_lt_of_le HGF.out Z.out.size)); (clear hB9); (clear hb))
                    | (go_at_call 14; (with_reducible refine (D9.out wa Z.out Q q HNa.out).mono ?_); (rintro x wb ⟨a9, e9, o9, s9, u9, A19, n19, c19, c9, A29, c29, r9, rfl, hB9, hb, rfl⟩); (have Z := Lib.hid (Z.out.trans (hb.mono Z.out.size))); (clear u0 u1); (obtain ⟨u0, u1⟩ := (Lies.below LG.out Z.out (Lies.lt LG.out)).cells2); (have hgB : wb.heap.size ≠ g21 := Nat.ne_of_gt (Nat.lt_of_lt_of_le HGF.out Z.out.size)); (clear hB9); (clear hb)))
                  all_goals
                    go_wp2_with fail
                    go_meet
                    first
                    | (with_reducible exact ⟨rfl, (below_put6 Z.out GZ.out _ _ _ _ _ _)⟩)
                    | (with_reducible exact ⟨rfl, (Z.out.alloc Z.out.size (.cells #[.int .u32 (o9 : Int), .int .i64 s9, .bool u9, .slice A19 n19 c19, .int .i64 c9, .slice A29 r9.length c29] 34))⟩)
              case rest =>
                obtain ⟨rfl, hBy⟩ := hcut
                have LK2 := Lib.hid (LK.out.below hBy LK.out.lt)
                have OR2 := Lib.hid (OR.out.belowOwn hBy)
                have HB2 := Lib.hid (HB.out.trans (hBy.mono HB.out.size))
                have LG2 := Lib.hid (LG.out.below hBy LG.out.lt)
                have r1 := run_str OR2.out.bys.1 c23
                rw [show str [114] = ⟨#[114]⟩ from rfl] at r1
                clear u0 u1 hgF HGF Z hBy
                obtain ⟨k0, k1, k2, k3, k4, k5⟩ := LK2.out.cells6
                obtain ⟨l0, l1⟩ := LG2.out.cells2
                go_wp2
                go_ret
                exact ⟨rfl, HB2.out⟩

end Go.Proofs.Ytfcfejmammohpaa
