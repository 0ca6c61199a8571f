/-
  The document's Keep, act 3.
-/
import Derived.Test.YtfcfejmammohpaaRKeep
import Derived.Deep.RegionHeld3
import Derived.Deep.DeepCutAuto
namespace Go.Proofs.Ytfcfejmammohpaa
open Go.RowKit
set_option maxRecDepth 100000
set_option linter.unusedVariables false
set_option linter.unusedSimpArgs false

set_option maxHeartbeats 16000000 in
theorem rkeep_3 (ep : Nat) (A : Option Addr) (n c : Nat) (T : Nat → Kp) (N : Note) (A1 A2 : Option Addr) (c1 c2 : Nat) (code : Int) (A3 : Option Addr) (n3 c3 : Nat) (reply : List Nat) (w : World)
    (hF : FV w A n c T) (hN : EntV w N A1 A2 c1 c2) (hs : in64 N.step) (hep : ep < 4294967296) (hcode : in64 code) (hR : Bys w A3 n3 reply) (hR4 : A3 = none → c3 = 0) (hE : keepE ep n T N code reply = 0) (hact : (askS ep n T N).act = 3) :
    Calls Try.prog 27 #[.agg #[.int .u32 (ep : Int), .slice A n c], .agg (evs N (.slice A1 N.key.length c1) (.slice A2 N.data.length c2)), .int .i64 code, .slice A3 n3 c3] w (FencePost w (keepE ep n T N code reply) (keepF ep n T N code reply)) := by
  have CA := Lib.hid (fun W (hb : Below w.heap.size w W) => rask_any ep A n c T N A1 A2 c1 c2 W (hF.below hb) (hN.below hb) hs hep)
  have BB := Lib.hid (below3 w (.cells #[.int .u32 (ep : Int), .slice A n c] 25) (.cells (evs N (.slice A1 N.key.length c1) (.slice A2 N.data.length c2)) 29) (.cells #[.int .u32 0, .slice none 0 0] 25))
  have LF := Lib.hid (((Lies.made w 25 #[.int .u32 (ep : Int), .slice A n c]).alloc (.cells (evs N (.slice A1 N.key.length c1) (.slice A2 N.data.length c2)) 29)).alloc (.cells #[.int .u32 0, .slice none 0 0] 25))
  have LN := Lib.hid ((Lies.made2 w (.cells #[.int .u32 (ep : Int), .slice A n c] 25) 29 (evs N (.slice A1 N.key.length c1) (.slice A2 N.data.length c2))).alloc (.cells #[.int .u32 0, .slice none 0 0] 25))
  have LR := Lib.hid (Lies.made3 w (.cells #[.int .u32 (ep : Int), .slice A n c] 25) (.cells (evs N (.slice A1 N.key.length c1) (.slice A2 N.data.length c2)) 29) 25 #[.int .u32 0, .slice none 0 0])
  have HL := Lib.hid hR.1
  unfold RAskPost at CA
  obtain ⟨he, hmay, hlen, hn2', h200, hno⟩ := keep_ok hE
  obtain ⟨hok, hrq⟩ := ask_ok he
  have HOK := Lib.hid ((okB_iff n T).1 hok)
  have HSM := Lib.hid (req_small hrq)
  rw [hact] at hmay
  have hcb : code = 2 := by unfold mayB at hmay; rw [if_pos rfl, decide_eq_true_iff] at hmay; exact hmay
  have e5 : (code != 2) = false := by simp [hcb]
  have d1 : decide (code < 1) = false := by rw [decide_eq_false_iff_not]; omega
  have d2 : decide (2 < code) = false := by rw [decide_eq_false_iff_not]; omega
  have d3 : decide ((255 : Int) < (n3 : Int)) = false := by rw [decide_eq_false_iff_not, ← HL.out]; omega
  have d3b : decide (255 < n3) = false := by rw [decide_eq_false_iff_not, ← HL.out]; omega
  have d5 : ((n : Int) == 200) = false := by simp; omega
  have d5b : (n == 200) = false := by simpa using h200
  have hn200 := HOK.out.1
  rw [hE, show keepF ep n T N code reply = ⟨N.epoch, n + 1, ins (pos T (nk N) n) (newK N code reply) T⟩ from by unfold keepF; rw [if_pos hE]]
  rw [he, hact] at CA
  have HF := Lib.hid (hF.below BB.out)
  have CC := Lib.hid (fun W (h : FV W A n c T) => copy_fence ep A n c T W h (by omega) (fun i hi => by have h1 := (vk_iff _).1 (HOK.out.2 i hi).1; omega))
  have HPOS := Lib.hid (pos_spec HOK.out (nk N))
  have HNO := Lib.hid (has_no HOK.out hno)
  have C1 := Lib.hid (fun W (hb : Below w.heap.size w W) => copy_any A2 N.data.length c2 N.data W (hN.d.below hb) hN.da (by have := HSM.out.1; omega))
  have C2 := Lib.hid (fun W (hb : Below w.heap.size w W) => copy_any A3 n3 c3 reply W (hR.below hb) hR4 (by have := HL.out; omega))
  have HBN := Lib.hid (And.intro hN.b.order (And.intro hs hcode))
  have HPL := Lib.hid (pos_le T (nk N) n)
  clear hF hN hs hcode hok hrq hno he hmay hlen hn2' h200 hE hcb hR hR4 HSM hact
  generalize (askS ep n T N).k = ak at *
  obtain ⟨kd, e, ol, ls, tk, od, st, un, cd, ky, da⟩ := N
  dsimp only at *
  obtain ⟨n1, hn1⟩ : ∃ m, ky.length = m := ⟨_, rfl⟩
  obtain ⟨n2, hnn2⟩ : ∃ m, da.length = m := ⟨_, rfl⟩
  rw [hn1, hnn2]
  rw [hn1, hnn2] at CA LF LN LR BB HF
  rw [hnn2] at C1
  clear hn1 hnn2
  go_enter Try.func27, Try.ntmps27
  go_wp2_with fail
  with_reducible refine (CA.out _ BB.out).mono ?_
  rintro x w1 ⟨y, rfl, hyk, hkt, hb⟩
  obtain ⟨E1, d1, z1, -⟩ := hkt.a
  obtain ⟨E2, d2, z2, -⟩ := hkt.r
  obtain ⟨yk, yK, yD⟩ := y
  dsimp only at *
  subst z1 z2
  subst hyk
  clear hkt
  obtain ⟨yo, ys, yu, ya, yc, yr⟩ := yk
  dsimp only at *
  obtain ⟨m1, hm1⟩ : ∃ m, ya.length = m := ⟨_, rfl⟩
  obtain ⟨m2, hm2⟩ : ∃ m, yr.length = m := ⟨_, rfl⟩
  rw [hm1, hm2]
  clear hm1 hm2
  have LF_1 := Lib.hid ((Lies.below LF.out hb LF.out.lt).alloc (.cells #[.int .u32 (yo : Int), .int .i64 ys, .bool yu, .slice E1 m1 d1, .int .i64 yc, .slice E2 m2 d2] 34))
  have LN_1 := Lib.hid ((Lies.below LN.out hb LN.out.lt).alloc (.cells #[.int .u32 (yo : Int), .int .i64 ys, .bool yu, .slice E1 m1 d1, .int .i64 yc, .slice E2 m2 d2] 34))
  have LR_1 := Lib.hid ((Lies.below LR.out hb LR.out.lt).alloc (.cells #[.int .u32 (yo : Int), .int .i64 ys, .bool yu, .slice E1 m1 d1, .int .i64 yc, .slice E2 m2 d2] 34))
  have BB_1 := Lib.hid ((BB.out.trans (hb.mono BB.out.size)).alloc (BB.out.trans (hb.mono BB.out.size)).size (.cells #[.int .u32 (yo : Int), .int .i64 ys, .bool yu, .slice E1 m1 d1, .int .i64 yc, .slice E2 m2 d2] 34))
  have HF_1 := Lib.hid ((HF.out.below hb).below (below1 _ (.cells #[.int .u32 (yo : Int), .int .i64 ys, .bool yu, .slice E1 m1 d1, .int .i64 yc, .slice E2 m2 d2] 34)))
  have LN1_1 := Lib.hid (Lies.made w1 34 #[.int .u32 (yo : Int), .int .i64 ys, .bool yu, .slice E1 m1 d1, .int .i64 yc, .slice E2 m2 d2])
  clear hb
  obtain ⟨c0_0, c0_1⟩ := LF_1.out.cells2
  obtain ⟨f0_0, f0_1⟩ := LF_1.out.free2
  obtain ⟨c1_0, c1_1, c1_2, c1_3, c1_4, c1_5, c1_6, c1_7, c1_8, c1_9, c1_10⟩ := LN_1.out.cells11
  obtain ⟨f1_0, f1_1, f1_2, f1_3, f1_4, f1_5, f1_6, f1_7, f1_8, f1_9, f1_10⟩ := LN_1.out.free11
  obtain ⟨c2_0, c2_1⟩ := LR_1.out.cells2
  obtain ⟨f2_0, f2_1⟩ := LR_1.out.free2
  obtain ⟨c3_0, c3_1, c3_2, c3_3, c3_4, c3_5⟩ := LN1_1.out.cells6
  obtain ⟨f3_0, f3_1, f3_2, f3_3, f3_4, f3_5⟩ := LN1_1.out.free6
  rw [show ((0 : Nat) : Int) = 0 from rfl, show ((3 : Nat) : Int) = 3 from rfl]
  go_wp2_with fail
  clear c0_0 c0_1 f0_0 f0_1 c1_0 c1_1 c1_2 c1_3 c1_4 c1_5 c1_6 c1_7 c1_8 c1_9 c1_10 f1_0 f1_1 f1_2 f1_3 f1_4 f1_5 f1_6 f1_7 f1_8 f1_9 f1_10 c2_0 c2_1 f2_0 f2_1 c3_0 c3_1 c3_2 c3_3 c3_4 c3_5 f3_0 f3_1 f3_2 f3_3 f3_4 f3_5
  obtain ⟨y1, hy1⟩ : ∃ y, y = w1.alloc (.cells #[.int .u32 (yo : Int), .int .i64 ys, .bool yu, .slice E1 m1 d1, .int .i64 yc, .slice E2 m2 d2] 34) := ⟨_, rfl⟩
  rw [← hy1]
  have LN4 := LN_1
  have LF4 := LF_1
  have LR4 := LR_1
  have BB4 := BB_1
  have HF4 := HF_1
  rw [← hy1] at LN4 LF4 LR4 BB4 HF4
  clear LN_1 LF_1 LR_1 BB_1 HF_1 hy1 LN1_1 LN LF LR HF CA
  have HYB := Lib.hid BB4.out.size
  have Z := Lib.hid (Below.refl y1.heap.size y1)
  have C1w := C1
  have C2w := C2
  clear C1 C2
  have C1 := Lib.hid (fun W (hb : Below y1.heap.size y1 W) => C1w.out W (BB4.out.trans (hb.mono BB4.out.size)))
  have C2 := Lib.hid (fun W (hb : Below y1.heap.size y1 W) => C2w.out W (BB4.out.trans (hb.mono BB4.out.size)))
  clear C1w C2w
  obtain ⟨-, -, -, -, -, u5, u6, u7, -, -, u10⟩ := LN4.out.cells11
  have hgF : y1.heap.size ≠ w.heap.size + 1 := Nat.ne_of_gt LN4.out.lt
  go_cut [13] (fun s13 W => ∃ g D1 d1 D2 d2, s13 = .pointer (some ⟨g, 0, none⟩) ∧ Lies W g 34 #[.int .u32 (od : Nat), .int .i64 st, .bool un, .slice D1 da.length d1, .int .i64 code, .slice D2 reply.length d2] ∧ Own W w.heap.size (.slice D1 da.length d1) da ∧ Own W w.heap.size (.slice D2 reply.length d2) reply ∧ Below y1.heap.size y1 W)
  case first =>
    go_region_held3 (fun W => W.cell? ⟨w.heap.size + 1, 5, none⟩ = some (.int .u32 (od : Nat)) ∧ W.cell? ⟨w.heap.size + 1, 6, none⟩ = some (.int .i64 st) ∧ W.cell? ⟨w.heap.size + 1, 7, none⟩ = some (.bool un) ∧ W.cell? ⟨w.heap.size + 1, 10, none⟩ = some (.slice A2 n2 c2)) (first | (with_reducible exact ⟨u5, u6, u7, u10⟩) | go_keep)
      (first
      | (go_at_call 37; (with_reducible refine (C1.out y1.drew Z.out.drew).mono ?_); (rintro x wa ⟨v1, rfl, ho1, hb⟩); (obtain ⟨D1, d1, rfl⟩ := NewKs.slices ho1); (have O1 := Lib.hid (ho1.mono (show y1.heap.size ≤ _ from by simp))); (have Z := Lib.hid (Z.out.drew.trans (hb.mono Z.out.size))); (clear u5 u6 u7 u10); (obtain ⟨-, -, -, -, -, u5, u6, u7, -, -, u10⟩ := (Lies.below LN4.out Z.out (Lies.lt LN4.out)).cells11); (have hgA : wa.heap.size ≠ w.heap.size + 1 := Nat.ne_of_gt (Nat.lt_of_lt_of_le LN4.out.lt Z.out.size)); (clear ho1 hb))
      | (go_at_call 37; (with_reducible refine (C1.out (y1.alloc (.cells #[.int .u32 0, .int .i64 0, .bool false, .slice none 0 0, .int .i64 0, .slice none 0 0] 34)).drew (Z.out.alloc Z.out.size (.cells #[.int .u32 0, .int .i64 0, .bool false, .slice none 0 0, .int .i64 0, .slice none 0 0] 34)).drew).mono ?_); (rintro x wa ⟨v1, rfl, ho1, hb⟩); (obtain ⟨D1, d1, rfl⟩ := NewKs.slices ho1); (have O1 := Lib.hid (ho1.mono (show y1.heap.size ≤ _ from by simp))); (have Z := Lib.hid ((Z.out.alloc Z.out.size (.cells #[.int .u32 0, .int .i64 0, .bool false, .slice none 0 0, .int .i64 0, .slice none 0 0] 34)).drew.trans (hb.mono (by simp)))); (clear u5 u6 u7 u10); (obtain ⟨-, -, -, -, -, u5, u6, u7, -, -, u10⟩ := (Lies.below LN4.out Z.out (Lies.lt LN4.out)).cells11); (have LZ1 := Lib.hid (Lies.below (Lies.drew (Lies.made y1 34 #[.int .u32 0, .int .i64 0, .bool false, .slice none 0 0, .int .i64 0, .slice none 0 0])) hb (Lies.lt (Lies.made y1 34 #[.int .u32 0, .int .i64 0, .bool false, .slice none 0 0, .int .i64 0, .slice none 0 0])))); (have GZ := Lib.hid (Nat.le_refl y1.heap.size)); (clear ho1 hb))
      | (go_at_call 37; (with_reducible refine (C2.out wa Z.out).mono ?_); (rintro x wb ⟨v2, rfl, ho2, hb⟩); (have LZ2 := Lib.hid (Lies.below LZ1.out hb (Lies.lt LZ1.out))); (obtain ⟨zc0, zc1, zc2, zc3, zc4, zc5⟩ := LZ2.out.cells6); (obtain ⟨zf0, zf1, zf2, zf3, zf4, zf5⟩ := LZ2.out.free6); (obtain ⟨D2, d2, rfl⟩ := NewKs.slices ho2); (have O2 := Lib.hid (ho2.mono Z.out.size)); (have O12 := Lib.hid ((O1.out).belowOwn hb)); (have Z := Lib.hid (Z.out.trans (hb.mono Z.out.size))); (clear u5 u6 u7 u10); (obtain ⟨-, -, -, -, -, u5, u6, u7, -, -, u10⟩ := (Lies.below LN4.out Z.out (Lies.lt LN4.out)).cells11); (have hgB : wb.heap.size ≠ w.heap.size + 1 := Nat.ne_of_gt (Nat.lt_of_lt_of_le LN4.out.lt Z.out.size)); (clear ho2 hb))
      | (go_at_call 37; (with_reducible refine (C2.out (wa.alloc (.cells #[.int .u32 0, .int .i64 0, .bool false, .slice none 0 0, .int .i64 0, .slice none 0 0] 34)) (Z.out.alloc Z.out.size (.cells #[.int .u32 0, .int .i64 0, .bool false, .slice none 0 0, .int .i64 0, .slice none 0 0] 34))).mono ?_); (rintro x wb ⟨v2, rfl, ho2, hb⟩); (have LZ2 := Lib.hid (Lies.below (Lies.made wa 34 #[.int .u32 0, .int .i64 0, .bool false, .slice none 0 0, .int .i64 0, .slice none 0 0]) hb (Lies.lt (Lies.made wa 34 #[.int .u32 0, .int .i64 0, .bool false, .slice none 0 0, .int .i64 0, .slice none 0 0])))); (have GZ := Lib.hid Z.out.size); (obtain ⟨zc0, zc1, zc2, zc3, zc4, zc5⟩ := LZ2.out.cells6); (obtain ⟨zf0, zf1, zf2, zf3, zf4, zf5⟩ := LZ2.out.free6); (obtain ⟨D2, d2, rfl⟩ := NewKs.slices ho2); (have O2 := Lib.hid (ho2.mono (Z.out.alloc Z.out.size (.cells #[.int .u32 0, .int .i64 0, .bool false, .slice none 0 0, .int .i64 0, .slice none 0 0] 34)).size)); (have O12 := Lib.hid ((O1.out.alloc (.cells #[.int .u32 0, .int .i64 0, .bool false, .slice none 0 0, .int .i64 0, .slice none 0 0] 34)).belowOwn hb)); (have Z := Lib.hid ((Z.out.alloc Z.out.size (.cells #[.int .u32 0, .int .i64 0, .bool false, .slice none 0 0, .int .i64 0, .slice none 0 0] 34)).trans (hb.mono (Z.out.alloc Z.out.size (.cells #[.int .u32 0, .int .i64 0, .bool false, .slice none 0 0, .int .i64 0, .slice none 0 0] 34)).size))); (clear u5 u6 u7 u10); (obtain ⟨-, -, -, -, -, u5, u6, u7, -, -, u10⟩ := (Lies.below LN4.out Z.out (Lies.lt LN4.out)).cells11); (have hgB : wb.heap.size ≠ w.heap.size + 1 := Nat.ne_of_gt (Nat.lt_of_lt_of_le LN4.out.lt Z.out.size)); (clear ho2 hb))
      | (go_at_call 37; (with_reducible refine (C2.out wa Z.out).mono ?_); (rintro x wb ⟨v2, rfl, ho2, hb⟩); (obtain ⟨D2, d2, rfl⟩ := NewKs.slices ho2); (have O2 := Lib.hid (ho2.mono Z.out.size)); (have O12 := Lib.hid ((O1.out).belowOwn hb)); (have Z := Lib.hid (Z.out.trans (hb.mono Z.out.size))); (clear u5 u6 u7 u10); (obtain ⟨-, -, -, -, -, u5, u6, u7, -, -, u10⟩ := (Lies.below LN4.out Z.out (Lies.lt LN4.out)).cells11); (have hgB : wb.heap.size ≠ w.heap.size + 1 := Nat.ne_of_gt (Nat.lt_of_lt_of_le LN4.out.lt Z.out.size)); (clear ho2 hb)))
    all_goals
      go_wp2_with fail
      go_meet
      refine ⟨_, D1, d1, D2, d2, rfl, ?_, ?_, ?_, ?_⟩
      · first
        | (with_reducible exact (Lies.put6 LZ2.out _ _ _ _ _ _))
        | (with_reducible exact (Lies.made wb 34 #[.int .u32 (od : Nat), .int .i64 st, .bool un, .slice D1 da.length d1, .int .i64 code, .slice D2 reply.length d2]))
      · first
        | (with_reducible exact (Own.put6 (O12.out.mono HYB.out) LZ2.out (by decide) _ _ _ _ _ _))
        | (with_reducible exact (Own.alloc (O12.out.mono HYB.out) _))
      · first
        | (with_reducible exact (Own.put6 (O2.out.mono HYB.out) LZ2.out (by decide) _ _ _ _ _ _))
        | (with_reducible exact (Own.alloc (O2.out.mono HYB.out) _))
      · first
        | (with_reducible exact (below_put6 Z.out GZ.out _ _ _ _ _ _))
        | (with_reducible exact (Z.out.alloc Z.out.size (.cells #[.int .u32 (od : Nat), .int .i64 st, .bool un, .slice D1 da.length d1, .int .i64 code, .slice D2 reply.length d2] 34)))
  case rest =>
    obtain ⟨g13, D1, d1, D2, d2, rfl, hLX, hO1, hO2, hBy⟩ := hcut
    generalize wc = x1 at *
    have LX := Lib.hid hLX
    have OX1 := Lib.hid hO1
    have OX2 := Lib.hid hO2
    have LF5 := Lib.hid (LF4.out.below hBy LF4.out.lt)
    have LN5 := Lib.hid (LN4.out.below hBy LN4.out.lt)
    have LR5 := Lib.hid (LR4.out.below hBy LR4.out.lt)
    have HF5 := Lib.hid (HF4.out.below hBy)
    have BB5 := Lib.hid (BB4.out.trans (hBy.mono BB4.out.size))
    clear hLX hO1 hO2 hBy C1 C2 Z u5 u6 u7 u10 hgF LF4 LN4 LR4 HF4 BB4 HYB
    obtain ⟨a0, a1⟩ := LF5.out.cells2
    go_wp2_with fail
    with_reducible refine (CC.out _ HF5.out).mono ?_
    rintro x w2 ⟨vo, Y, rfl, hnf, hyk, hb⟩
    obtain ⟨Ao, co, rfl, hnco, hcoM, hAo, hato⟩ := hnf.row.slice
    have HATO := Lib.hid hato
    have NFo := Lib.hid hnf
    have HYo := Lib.hid hyk
    have LX2 := Lib.hid (LX.out.below hb LX.out.lt)
    have OA2 := Lib.hid (OX1.out.belowOwn hb)
    have OB2 := Lib.hid (OX2.out.belowOwn hb)
    have LN6 := Lib.hid (LN5.out.below hb LN5.out.lt)
    have LR6 := Lib.hid (LR5.out.below hb LR5.out.lt)
    have BB6 := Lib.hid (BB5.out.trans (hb.mono BB5.out.size))
    have HX1 := Lib.hid BB5.out.size
    have HX12 := Lib.hid hb.size
    have FRA := Lib.hid (fun i (hi : i < n) => fresh_ne OX1.out (hnf.a i hi))
    have FRB := Lib.hid (fun i (hi : i < n) => fresh_ne OX2.out (hnf.r i hi))
    clear hnf hyk hb hato a0 a1 LX OX1 OX2 LF5 LN5 LR5 HF5 BB5 CC
    have LO := Lib.hid ((Lies.made w2 25 #[.int .u32 (ep : Int), .slice Ao n co]).alloc (.cells #[.int .u32 (e : Nat), .slice none 0 0] 25))
    have LG0 := Lib.hid (Lies.made2 w2 (.cells #[.int .u32 (ep : Int), .slice Ao n co] 25) 25 #[.int .u32 (e : Nat), .slice none 0 0])
    have BW0 := Lib.hid (below2 w2 (.cells #[.int .u32 (ep : Int), .slice Ao n co] 25) (.cells #[.int .u32 (e : Nat), .slice none 0 0] 25))
    have LNo := Lib.hid (LN6.out.alloc (.cells #[.int .u32 (ep : Int), .slice Ao n co] 25))
    obtain ⟨-, b1, -, -, -, -, -, -, -, -, -⟩ := LNo.out.cells11
    go_wp2_with fail
    go_loopw [16, 17] (RkR ((w2.alloc (.cells #[.int .u32 (ep : Int), .slice Ao n co] 25)).alloc (.cells #[.int .u32 (e : Nat), .slice none 0 0] 25)) (w2.heap.size + 1) e n Y ⟨⟨od, st, un, da, code, reply⟩, .slice D1 da.length d1, .slice D2 reply.length d2⟩) (fun _ i _ => n - (intOf i).toNat)
    case atStart => exact ⟨0, false, 0, none, 0, Y, by omega, rfl, rfl, .inl ⟨rfl, rfl, (fun i hi => by omega), (fun i hi => by omega)⟩, OwnK.nil _ _ _, LG0.out, Below.refl _ _⟩
    case round =>
      obtain ⟨j, ld, m9, A9, c9, X9, hj, rfl, rfl, hRL, hrow, hlg, hq⟩ := hrel
      have RL := Lib.hid hRL
      have RW := Lib.hid hrow
      have LG := Lib.hid hlg
      have Q0 := Lib.hid hq
      clear hRL hrow hlg hq b1
      have ZW := Lib.hid (fun W (hq : Below (w2.heap.size + 1) ((w2.alloc (.cells #[.int .u32 (ep : Int), .slice Ao n co] 25)).alloc (.cells #[.int .u32 (e : Nat), .slice none 0 0] 25)) W) => BW0.out.trans (hq.mono (show w2.heap.size ≤ (w2.heap.size + 1) by omega)))
      have HGZ := Lib.hid (fun W (hq : Below (w2.heap.size + 1) ((w2.alloc (.cells #[.int .u32 (ep : Int), .slice Ao n co] 25)).alloc (.cells #[.int .u32 (e : Nat), .slice none 0 0] 25)) W) => (show (w2.heap.size + 1) ≤ W.heap.size from Nat.le_trans (by simp) hq.size))
      have HGZ3 := Lib.hid (fun W (hq : Below (w2.heap.size + 1) ((w2.alloc (.cells #[.int .u32 (ep : Int), .slice Ao n co] 25)).alloc (.cells #[.int .u32 (e : Nat), .slice none 0 0] 25)) W) => (show (w2.heap.size + 1) + 1 ≤ W.heap.size from Nat.le_trans (by simp) hq.size))
      have LOw := Lib.hid (fun W (hq : Below (w2.heap.size + 1) ((w2.alloc (.cells #[.int .u32 (ep : Int), .slice Ao n co] 25)).alloc (.cells #[.int .u32 (e : Nat), .slice none 0 0] 25)) W) => Lies.below LO.out hq (show w2.heap.size < (w2.heap.size + 1) by omega))
      have hm9 : m9 ≤ j + 1 := by rcases RL.out with h | h; omega; omega
      by_cases hlt : j < n
      · obtain ⟨ob, ooff, rfl, -, -, -⟩ := HATO.out (by omega)
        have hi : (j : Int) < (n : Int) := by omega
        have HKT := Lib.hid (NFo.out.kt j hlt)
        have HAT := Lib.hid (fun W (hq : Below (w2.heap.size + 1) ((w2.alloc (.cells #[.int .u32 (ep : Int), .slice (some ⟨ob, ooff, none⟩) n co] 25)).alloc (.cells #[.int .u32 (e : Nat), .slice none 0 0] 25)) W) => ((NFo.out.below (ZW.out W hq)).row.at j hlt).1)
        obtain ⟨xA, xc', e1, -⟩ := (NFo.out.a j hlt).slice
        obtain ⟨xB, xd, e2, -⟩ := (NFo.out.r j hlt).slice
        have CL := Lib.hid (fun W => less_any ⟨⟨od, st, un, da, code, reply⟩, .slice D1 da.length d1, .slice D2 reply.length d2⟩ (Y j) HBN.out.2.1 HKT.out.s W)
        obtain ⟨yj, hyj⟩ : ∃ y, Y j = y := ⟨_, rfl⟩
        have HYJ := Lib.hid hyj
        rw [hyj] at HAT e1 e2 CL
        clear hyj HKT
        obtain ⟨⟨xo, xs, xu, xa, xq, xr⟩, xK, xD⟩ := yj
        dsimp only at *
        subst e1 e2
        obtain ⟨xn, hxn⟩ : ∃ q, xa.length = q := ⟨_, rfl⟩
        obtain ⟨xm, hxm⟩ : ∃ q, xr.length = q := ⟨_, rfl⟩
        rw [hxn, hxm] at HAT CL
        rw [hxn, hxm] at HYJ
        clear hxn hxm
        have HS20 : Hid (∀ W, Below (w2.heap.size + 1) ((w2.alloc (.cells #[.int .u32 (ep : Int), .slice (some ⟨ob, ooff, none⟩) n co] 25)).alloc (.cells #[.int .u32 (e : Nat), .slice none 0 0] 25)) W → (W.cell? ⟨w2.heap.size, 1, none⟩ = some (.slice (some ⟨ob, ooff, none⟩) n co) ∧ W.cell? ⟨ob, ooff + j * 6, none⟩ = some (.int .u32 (xo : Int)) ∧ W.cell? ⟨ob, ooff + j * 6 + 1, none⟩ = some (.int .i64 xs) ∧ W.cell? ⟨ob, ooff + j * 6 + 2, none⟩ = some (.bool xu) ∧ W.cell? ⟨ob, ooff + j * 6 + 3, none⟩ = some (.slice xA xn xc') ∧ W.cell? ⟨ob, ooff + j * 6 + 4, none⟩ = some (.int .i64 xq) ∧ W.cell? ⟨ob, ooff + j * 6 + 5, none⟩ = some (.slice xB xm xd))) := Lib.hid (fun W hq => ⟨(LOw.out W hq).cells2.2, HAT.out W hq⟩)
        obtain ⟨o0, o1⟩ := (LOw.out wr Q0.out).cells2
        cases ld
        · rcases RL.out with ⟨-, hmj, hX9, hno9⟩ | ⟨h, -⟩
          rotate_left
          · cases h
          have HX9 := Lib.hid hX9
          have HNO9 := Lib.hid hno9
          have HMJ := Lib.hid hmj
          clear hX9 hno9 hmj
          obtain ⟨x0, x1c, x2, x3, x4, x5⟩ := (LX2.out.below (ZW.out wr Q0.out) LX2.out.lt).cells6
          obtain ⟨r0, r1, r2, r3, r4, r5⟩ := HAT.out wr Q0.out
          have HKJ : Hid ((Y j).k.k = kn xo xs xu) := Lib.hid (by rw [HYJ.out])
          by_cases hl : kn od st un < kn xo xs xu
          · rw [show decide (kn od st un < kn xo xs xu) = true from decide_eq_true hl] at CL
            have HLV := Lib.hid hl
            clear hl
            go_wp2_with fail
            go_region_held3 (fun W => W.cell? ⟨g13, 0, none⟩ = some (.int .u32 (od : Nat)) ∧ W.cell? ⟨g13, 1, none⟩ = some (.int .i64 st) ∧ W.cell? ⟨g13, 2, none⟩ = some (.bool un) ∧ W.cell? ⟨g13, 3, none⟩ = some (.slice D1 da.length d1) ∧ W.cell? ⟨g13, 4, none⟩ = some (.int .i64 code) ∧ W.cell? ⟨g13, 5, none⟩ = some (.slice D2 reply.length d2) ∧ W.cell? ⟨w2.heap.size, 1, none⟩ = some (.slice (some ⟨ob, ooff, none⟩) n co) ∧ W.cell? ⟨ob, ooff + j * 6, none⟩ = some (.int .u32 (xo : Int)) ∧ W.cell? ⟨ob, ooff + j * 6 + 1, none⟩ = some (.int .i64 xs) ∧ W.cell? ⟨ob, ooff + j * 6 + 2, none⟩ = some (.bool xu) ∧ W.cell? ⟨ob, ooff + j * 6 + 3, none⟩ = some (.slice xA xn xc') ∧ W.cell? ⟨ob, ooff + j * 6 + 4, none⟩ = some (.int .i64 xq) ∧ W.cell? ⟨ob, ooff + j * 6 + 5, none⟩ = some (.slice xB xm xd)) (first | (with_reducible exact KP.out) | go_keep)
              (first
              | (go_at_call 48; (with_reducible refine (CL.out _).mono ?_); (rintro x w5 ⟨rfl, hb⟩); (have Q5 := Lib.hid (Q0.out.drew.trans (hb.mono (HGZ.out wr Q0.out)))); (have RW5 := Lib.hid (OwnK.belowT (OwnK.drew RW.out) hb)); (have LG5 := Lib.hid (Lies.below (Lies.drew LG.out) hb (Lies.lt LG.out))); (have KP := Lib.hid (and_six (Lies.cells6 (LX2.out.below (ZW.out w5 Q5.out) LX2.out.lt)) (HS20.out w5 Q5.out))); (clear hb)))
            clear x0 x1c x2 x3 x4 x5 r0 r1 r2 r3 r4 r5 o0 o1
            obtain ⟨x0, x1c, x2, x3, x4, x5⟩ := (LX2.out.below (ZW.out w5 Q5.out) LX2.out.lt).cells6
            obtain ⟨gl0, gl1⟩ := LG5.out.cells2
            obtain ⟨gf0, gf1⟩ := LG5.out.free2
            have RW6 := Lib.hid (RW5.out.alloc (.cells #[.int .u32 (od : Nat), .int .i64 st, .bool un, .slice D1 da.length d1, .int .i64 code, .slice D2 reply.length d2] 34))
            have LG6 := Lib.hid (LG5.out.alloc (.cells #[.int .u32 (od : Nat), .int .i64 st, .bool un, .slice D1 da.length d1, .int .i64 code, .slice D2 reply.length d2] 34))
            have Q6 := Lib.hid (Q5.out.alloc (HGZ.out w5 Q5.out) (.cells #[.int .u32 (od : Nat), .int .i64 st, .bool un, .slice D1 da.length d1, .int .i64 code, .slice D2 reply.length d2] 34))
            have HKS : Hid (Ks (w5.alloc (.cells #[.int .u32 (od : Nat), .int .i64 st, .bool un, .slice D1 da.length d1, .int .i64 code, .slice D2 reply.length d2] 34)) (some ⟨w5.heap.size, 0, none⟩) 1 (fun _ => ⟨⟨od, st, un, da, code, reply⟩, .slice D1 da.length d1, .slice D2 reply.length d2⟩)) := Lib.hid (by
              have Z6 := ZW.out _ Q6.out
              refine ⟨fun _ => ⟨w5.heap.size, 0, rfl, fun k hk i hi => ?_⟩, fun _ _ => ⟨(OA2.out.belowOwn Z6).reads, (OB2.out.belowOwn Z6).reads, HBN.out.1, HBN.out.2.1, HBN.out.2.2⟩⟩
              rw [(Lies.made w5 34 #[.int .u32 (od : Nat), .int .i64 st, .bool un, .slice D1 da.length d1, .int .i64 code, .slice D2 reply.length d2]).cell]
              obtain rfl : k = 0 := by omega
              simp)
            have hsz : w2.heap.size + 1 + 1 ≤ (w5.alloc (.cells #[.int .u32 (od : Nat), .int .i64 st, .bool un, .slice D1 da.length d1, .int .i64 code, .slice D2 reply.length d2] 34)).heap.size := HGZ3.out _ Q6.out
            have hm9s : m9 ≤ 300 := by omega
            go_wp2_with (first
              | ((with_reducible refine wpl_appendK (some 107) _ _ _ (.tmp 104) (.tmp 106) (w2.heap.size + 1 + 1) (.slice A9 m9 c9) m9 X9 (some ⟨w5.heap.size, 0, none⟩) 1 1 (fun _ => ⟨⟨od, st, un, da, code, reply⟩, .slice D1 da.length d1, .slice D2 reply.length d2⟩) ?hs ?hx RW6.out HKS.out ?ha ?hm hsz ?_); (case hs => rfl); (case hx => rfl); (case ha => (intro h; cases h)); (case hm => omega); (intro v7 w7 ho7 hg7 hv7); (obtain ⟨A7, c7, z7, -⟩ := ho7.slice); (subst z7); (have RW7 := Lib.hid ho7); (have LG7 := Lib.hid (Lies.grown LG6.out hg7 (fun q => by have := RW6.out.block _ q.symm; omega))); (have Q7 := Lib.hid (Q6.out.grown hg7 (HGZ.out _ Q6.out) (fun k hk => by have := RW6.out.block k hk; omega))); (clear ho7 hg7 hv7 gl0 gl1 gf0 gf1); (obtain ⟨gl0, gl1⟩ := LG7.out.cells2); (obtain ⟨gf0, gf1⟩ := LG7.out.free2)))
            have LGz := Lib.hid (LG7.out.put 1 (.slice A7 (m9 + 1) c7))
            have RWz := Lib.hid (OwnK.other' RW7.out (w2.heap.size + 1) (Nat.lt_succ_self _) 1 (.slice A7 (m9 + 1) c7))
            have QZz := Lib.hid (Q7.out.setCell (p := ⟨w2.heap.size + 1, 1, none⟩) (Nat.le_refl _) (.slice A7 (m9 + 1) c7))
            obtain ⟨z, hz⟩ : ∃ z, z = w7.setCell ⟨w2.heap.size + 1, 1, none⟩ (.slice A7 (m9 + 1) c7) := ⟨_, rfl⟩
            rw [← hz]
            rw [← hz] at LGz RWz QZz
            clear hz
            have LG := Lib.hid (show Lies z (w2.heap.size + 1) 25 #[.int .u32 (e : Nat), .slice A7 (m9 + 1) c7] from LGz.out)
            have RW := RWz
            have QZ := QZz
            clear LGz RWz QZz x0 x1c x2 x3 x4 x5 gl0 gl1 gf0 gf1
            have HZa := Lib.hid (HGZ.out z QZ.out)
            have HZb := Lib.hid (HGZ3.out z QZ.out)
            obtain ⟨gl0, gl1⟩ := LG.out.cells2
            obtain ⟨gf0, gf1⟩ := LG.out.free2
            have ga1 := Lib.hid (Lies.cells2 (LG.out.alloc (.cells #[.int .u32 (xo : Int), .int .i64 xs, .bool xu, .slice xA xn xc', .int .i64 xq, .slice xB xm xd] 34))).2
            refine wp_region_noPanic ?_
            refine wp_region_held_drew (S := fun W => W.cell? ⟨w2.heap.size, 1, none⟩ = some (.slice (some ⟨ob, ooff, none⟩) n co) ∧ W.cell? ⟨ob, ooff + j * 6, none⟩ = some (.int .u32 (xo : Int)) ∧ W.cell? ⟨ob, ooff + j * 6 + 1, none⟩ = some (.int .i64 xs) ∧ W.cell? ⟨ob, ooff + j * 6 + 2, none⟩ = some (.bool xu) ∧ W.cell? ⟨ob, ooff + j * 6 + 3, none⟩ = some (.slice xA xn xc') ∧ W.cell? ⟨ob, ooff + j * 6 + 4, none⟩ = some (.int .i64 xq) ∧ W.cell? ⟨ob, ooff + j * 6 + 5, none⟩ = some (.slice xB xm xd)) (by kernel_rfl) (HS20.out z QZ.out) (fun hH0 => ?_)
            refine any_take 0 109 ?vq11x0 rfl rfl (by kernel_rfl) (by kernel_rfl) (by kernel_rfl) (fun _ _ _ h => h) (by rfl) ?hyq11x0 hH0 ?restq11x0
            case hyq11x0 => ((intro W hSw); obtain ⟨s0, s1, s2, s3, s4, s5, s6⟩ := hSw; go_simp; (try with_reducible rfl))
            try simp only [Act.put, List.setIfInBounds_toArray, List.set_cons_zero, List.set_cons_succ]
            refine any_take 2 111 ?vq11x2 rfl rfl (by kernel_rfl) (by kernel_rfl) (by kernel_rfl) (fun _ _ _ h => h) (by rfl) ?hyq11x2 hH0 ?restq11x2
            case hyq11x2 => ((intro W hSw); obtain ⟨s0, s1, s2, s3, s4, s5, s6⟩ := hSw; go_simp; (try with_reducible rfl))
            try simp only [Act.put, List.setIfInBounds_toArray, List.set_cons_zero, List.set_cons_succ]
            refine any_take 3 112 ?vq11x3 rfl rfl (by kernel_rfl) (by kernel_rfl) (by kernel_rfl) (fun _ _ _ h => h) (by rfl) ?hyq11x3 hH0 ?restq11x3
            case hyq11x3 => ((intro W hSw); obtain ⟨s0, s1, s2, s3, s4, s5, s6⟩ := hSw; go_simp; (try with_reducible rfl))
            try simp only [Act.put, List.setIfInBounds_toArray, List.set_cons_zero, List.set_cons_succ]
            refine any_take 4 113 ?vq11x4 rfl rfl (by kernel_rfl) (by kernel_rfl) (by kernel_rfl) (fun _ _ _ h => h) (by rfl) ?hyq11x4 hH0 ?restq11x4
            case hyq11x4 => ((intro W hSw); obtain ⟨s0, s1, s2, s3, s4, s5, s6⟩ := hSw; go_simp; (try with_reducible rfl))
            try simp only [Act.put, List.setIfInBounds_toArray, List.set_cons_zero, List.set_cons_succ]
            refine any_take 5 114 ?vq11x5 rfl rfl (by kernel_rfl) (by kernel_rfl) (by kernel_rfl) (fun _ _ _ h => h) (by rfl) ?hyq11x5 hH0 ?restq11x5
            case hyq11x5 => ((intro W hSw); obtain ⟨s0, s1, s2, s3, s4, s5, s6⟩ := hSw; go_simp; (try with_reducible rfl))
            try simp only [Act.put, List.setIfInBounds_toArray, List.set_cons_zero, List.set_cons_succ]
            refine any_take 6 115 ?vq11x6 rfl rfl (by kernel_rfl) (by kernel_rfl) (by kernel_rfl) (fun _ _ _ h => h) (by rfl) ?hyq11x6 hH0 ?restq11x6
            case hyq11x6 => ((intro W hSw); obtain ⟨s0, s1, s2, s3, s4, s5, s6⟩ := hSw; go_simp; (try with_reducible rfl))
            try simp only [Act.put, List.setIfInBounds_toArray, List.set_cons_zero, List.set_cons_succ]
            refine wpAnyH_ready (rs := [1, 7]) (by kernel_rfl) (by simp) ?_
            refine AllReadyH.cons rfl (fun K hK => ?_) (AllReadyH.cons rfl (fun K hK => ?_) AllReadyH.nil)
            · go_simp
              refine hK.out _ _ (HS20.out z QZ.out) (fun hH1 => ?_)
              clear hK K hH0
              try simp only [Act.put, List.setIfInBounds_toArray, List.set_cons_zero, List.set_cons_succ]
              refine wpAnyH_ready (rs := [7]) (by kernel_rfl) (by simp) ?_
              refine AllReadyH.cons rfl (fun K hK => ?_) AllReadyH.nil
              go_simp
              refine hK.out _ _ (HS20.out (z.alloc (.cells #[.int .u32 (xo : Int), .int .i64 xs, .bool xu, .slice xA xn xc', .int .i64 xq, .slice xB xm xd] 34)) (QZ.out.alloc HZa.out (.cells #[.int .u32 (xo : Int), .int .i64 xs, .bool xu, .slice xA xn xc', .int .i64 xq, .slice xB xm xd] 34))) (fun hH2 => ?_)
              clear hK K hH1
              try simp only [Act.put, List.setIfInBounds_toArray, List.set_cons_zero, List.set_cons_succ]
              refine wpAnyH_ready (rs := [8]) (by kernel_rfl) (by simp) ?_
              refine AllReadyH.cons rfl (fun K hK => ?_) AllReadyH.nil
              refine stp_appendK (some 117) _ _ _ (.tmp 110) (.tmp 116) (w2.heap.size + 1 + 1) (.slice A7 (m9 + 1) c7) (m9 + 1) (fun i => if i < m9 then X9 i else ⟨⟨od, st, un, da, code, reply⟩, .slice D1 da.length d1, .slice D2 reply.length d2⟩) z.heap.size ⟨⟨xo, xs, xu, xa, xq, xr⟩, .slice xA xn xc', .slice xB xm xd⟩ rfl rfl (OwnK.drew (RW.out.alloc (.cells #[.int .u32 (xo : Int), .int .i64 xs, .bool xu, .slice xA xn xc', .int .i64 xq, .slice xB xm xd] 34))) (Lies.drew (Lies.made z 34 #[.int .u32 (xo : Int), .int .i64 xs, .bool xu, .slice xA xn xc', .int .i64 xq, .slice xB xm xd])) ⟨rfl, rfl⟩ (by omega) (by simp; have := HZb.out; omega) ?_
              intro gg cap w9 ho9 hg9 hb9
              have LG9 := Lib.hid (Lies.grown (Lies.drew (LG.out.alloc (.cells #[.int .u32 (xo : Int), .int .i64 xs, .bool xu, .slice xA xn xc', .int .i64 xq, .slice xB xm xd] 34))) hg9 (fun q => by have := RW.out.block _ q.symm; omega))
              have QZ9 := Lib.hid ((QZ.out.alloc HZa.out (.cells #[.int .u32 (xo : Int), .int .i64 xs, .bool xu, .slice xA xn xc', .int .i64 xq, .slice xB xm xd] 34)).drew.grown hg9 (by have := HZa.out; simp; omega) (fun k hk => by have := RW.out.block k hk; omega))
              have RW9 := Lib.hid ho9
              clear ho9 hg9 hb9
              obtain ⟨t0, t1⟩ := LG9.out.cells2
              obtain ⟨v0, v1⟩ := LG9.out.free2
              refine hK.out _ _ (HS20.out w9 QZ9.out) (fun hH3 => ?_)
              clear hK K hH2
              try simp only [Act.put, List.setIfInBounds_toArray, List.set_cons_zero, List.set_cons_succ]
              refine any_take 9 118 ?vq12x9 rfl rfl (by kernel_rfl) (by kernel_rfl) (by kernel_rfl) (fun _ _ _ h => h) (by rfl) ?hyq12x9 hH3 ?restq12x9
              case hyq12x9 => ((intro W hSw); obtain ⟨s0, s1, s2, s3, s4, s5, s6⟩ := hSw; go_simp; (try with_reducible rfl))
              try simp only [Act.put, List.setIfInBounds_toArray, List.set_cons_zero, List.set_cons_succ]
              refine wpAnyH_ready (rs := [10]) (by kernel_rfl) (by simp) ?_
              refine AllReadyH.cons rfl (fun K hK => ?_) AllReadyH.nil
              go_simp
              have QZn := Lib.hid (QZ9.out.setCell (p := ⟨w2.heap.size + 1, 1, none⟩) (Nat.le_refl _) (.slice (some ⟨gg, 0, none⟩) ((m9 + 1) + 1) cap))
              refine hK.out _ _ (HS20.out _ QZn.out) (fun hH4 => ?_)
              clear hK K hH3 hH4
              try simp only [Act.put, List.setIfInBounds_toArray, List.set_cons_zero, List.set_cons_succ]
              refine wpAnyH_done (by kernel_rfl) ?_ _
              refine NoPanic.normal ?_
              have LGn := Lib.hid (LG9.out.put 1 (.slice (some ⟨gg, 0, none⟩) ((m9 + 1) + 1) cap))
              have RWn := Lib.hid (OwnK.other' RW9.out (w2.heap.size + 1) (Nat.lt_succ_self _) 1 (.slice (some ⟨gg, 0, none⟩) ((m9 + 1) + 1) cap))
              clear t0 t1 v0 v1 gl0 gl1 gf0 gf1 ga1
              go_wp2
              go_roundw
              case rel =>
                refine ⟨j + 1, true, m9 + 1 + 1, some ⟨gg, 0, none⟩, cap, _, by omega, by go_num, rfl, ?_, RWn.out, LGn.out, QZn.out⟩
                have hm := HMJ.out
                refine .inr ⟨rfl, by omega, j, by omega, fun i hi => ?_, fun i hi => no_lt (HNO9.out i hi), by rw [HKJ.out]; exact HLV.out⟩
                dsimp only
                by_cases q1 : i = m9 + 1
                · rw [if_pos q1, insX_gt (by omega), show i - 1 = j by omega, HYJ.out]
                · rw [if_neg q1]
                  by_cases q2 : i < m9
                  · rw [if_pos q2, insX_lt (by omega)]; exact HX9.out i (by omega)
                  · rw [if_neg q2, show i = j by omega, insX_eq]
              case measure => simp [intOf]; omega
            · go_simp
              refine hK.out _ _ (HS20.out (z.alloc (.cells #[.int .u32 (xo : Int), .int .i64 xs, .bool xu, .slice xA xn xc', .int .i64 xq, .slice xB xm xd] 34)) (QZ.out.alloc HZa.out (.cells #[.int .u32 (xo : Int), .int .i64 xs, .bool xu, .slice xA xn xc', .int .i64 xq, .slice xB xm xd] 34))) (fun hH1 => ?_)
              clear hK K hH0
              try simp only [Act.put, List.setIfInBounds_toArray, List.set_cons_zero, List.set_cons_succ]
              have e5 := ga1.out
              refine wpAnyH_ready (rs := [1]) (by kernel_rfl) (by simp) ?_
              refine AllReadyH.cons rfl (fun K hK => ?_) AllReadyH.nil
              go_simp
              refine hK.out _ _ (HS20.out (z.alloc (.cells #[.int .u32 (xo : Int), .int .i64 xs, .bool xu, .slice xA xn xc', .int .i64 xq, .slice xB xm xd] 34)) (QZ.out.alloc HZa.out (.cells #[.int .u32 (xo : Int), .int .i64 xs, .bool xu, .slice xA xn xc', .int .i64 xq, .slice xB xm xd] 34))) (fun hH2 => ?_)
              clear hK K hH1
              try simp only [Act.put, List.setIfInBounds_toArray, List.set_cons_zero, List.set_cons_succ]
              clear e5
              refine wpAnyH_ready (rs := [8]) (by kernel_rfl) (by simp) ?_
              refine AllReadyH.cons rfl (fun K hK => ?_) AllReadyH.nil
              refine stp_appendK (some 117) _ _ _ (.tmp 110) (.tmp 116) (w2.heap.size + 1 + 1) (.slice A7 (m9 + 1) c7) (m9 + 1) (fun i => if i < m9 then X9 i else ⟨⟨od, st, un, da, code, reply⟩, .slice D1 da.length d1, .slice D2 reply.length d2⟩) z.heap.size ⟨⟨xo, xs, xu, xa, xq, xr⟩, .slice xA xn xc', .slice xB xm xd⟩ rfl rfl (OwnK.drew (RW.out.alloc (.cells #[.int .u32 (xo : Int), .int .i64 xs, .bool xu, .slice xA xn xc', .int .i64 xq, .slice xB xm xd] 34))) (Lies.drew (Lies.made z 34 #[.int .u32 (xo : Int), .int .i64 xs, .bool xu, .slice xA xn xc', .int .i64 xq, .slice xB xm xd])) ⟨rfl, rfl⟩ (by omega) (by simp; have := HZb.out; omega) ?_
              intro gg cap w9 ho9 hg9 hb9
              have LG9 := Lib.hid (Lies.grown (Lies.drew (LG.out.alloc (.cells #[.int .u32 (xo : Int), .int .i64 xs, .bool xu, .slice xA xn xc', .int .i64 xq, .slice xB xm xd] 34))) hg9 (fun q => by have := RW.out.block _ q.symm; omega))
              have QZ9 := Lib.hid ((QZ.out.alloc HZa.out (.cells #[.int .u32 (xo : Int), .int .i64 xs, .bool xu, .slice xA xn xc', .int .i64 xq, .slice xB xm xd] 34)).drew.grown hg9 (by have := HZa.out; simp; omega) (fun k hk => by have := RW.out.block k hk; omega))
              have RW9 := Lib.hid ho9
              clear ho9 hg9 hb9
              obtain ⟨t0, t1⟩ := LG9.out.cells2
              obtain ⟨v0, v1⟩ := LG9.out.free2
              refine hK.out _ _ (HS20.out w9 QZ9.out) (fun hH3 => ?_)
              clear hK K hH2
              try simp only [Act.put, List.setIfInBounds_toArray, List.set_cons_zero, List.set_cons_succ]
              refine any_take 9 118 ?vq13x9 rfl rfl (by kernel_rfl) (by kernel_rfl) (by kernel_rfl) (fun _ _ _ h => h) (by rfl) ?hyq13x9 hH3 ?restq13x9
              case hyq13x9 => ((intro W hSw); obtain ⟨s0, s1, s2, s3, s4, s5, s6⟩ := hSw; go_simp; (try with_reducible rfl))
              try simp only [Act.put, List.setIfInBounds_toArray, List.set_cons_zero, List.set_cons_succ]
              refine wpAnyH_ready (rs := [10]) (by kernel_rfl) (by simp) ?_
              refine AllReadyH.cons rfl (fun K hK => ?_) AllReadyH.nil
              go_simp
              have QZn := Lib.hid (QZ9.out.setCell (p := ⟨w2.heap.size + 1, 1, none⟩) (Nat.le_refl _) (.slice (some ⟨gg, 0, none⟩) ((m9 + 1) + 1) cap))
              refine hK.out _ _ (HS20.out _ QZn.out) (fun hH4 => ?_)
              clear hK K hH3 hH4
              try simp only [Act.put, List.setIfInBounds_toArray, List.set_cons_zero, List.set_cons_succ]
              refine wpAnyH_done (by kernel_rfl) ?_ _
              refine NoPanic.normal ?_
              have LGn := Lib.hid (LG9.out.put 1 (.slice (some ⟨gg, 0, none⟩) ((m9 + 1) + 1) cap))
              have RWn := Lib.hid (OwnK.other' RW9.out (w2.heap.size + 1) (Nat.lt_succ_self _) 1 (.slice (some ⟨gg, 0, none⟩) ((m9 + 1) + 1) cap))
              clear t0 t1 v0 v1 gl0 gl1 gf0 gf1 ga1
              go_wp2
              go_roundw
              case rel =>
                refine ⟨j + 1, true, m9 + 1 + 1, some ⟨gg, 0, none⟩, cap, _, by omega, by go_num, rfl, ?_, RWn.out, LGn.out, QZn.out⟩
                have hm := HMJ.out
                refine .inr ⟨rfl, by omega, j, by omega, fun i hi => ?_, fun i hi => no_lt (HNO9.out i hi), by rw [HKJ.out]; exact HLV.out⟩
                dsimp only
                by_cases q1 : i = m9 + 1
                · rw [if_pos q1, insX_gt (by omega), show i - 1 = j by omega, HYJ.out]
                · rw [if_neg q1]
                  by_cases q2 : i < m9
                  · rw [if_pos q2, insX_lt (by omega)]; exact HX9.out i (by omega)
                  · rw [if_neg q2, show i = j by omega, insX_eq]
              case measure => simp [intOf]; omega
          · rw [show decide (kn od st un < kn xo xs xu) = false from decide_eq_false hl] at CL
            have HLV := Lib.hid hl
            clear hl
            go_wp2_with fail
            go_region_held3 (fun W => W.cell? ⟨g13, 0, none⟩ = some (.int .u32 (od : Nat)) ∧ W.cell? ⟨g13, 1, none⟩ = some (.int .i64 st) ∧ W.cell? ⟨g13, 2, none⟩ = some (.bool un) ∧ W.cell? ⟨g13, 3, none⟩ = some (.slice D1 da.length d1) ∧ W.cell? ⟨g13, 4, none⟩ = some (.int .i64 code) ∧ W.cell? ⟨g13, 5, none⟩ = some (.slice D2 reply.length d2) ∧ W.cell? ⟨w2.heap.size, 1, none⟩ = some (.slice (some ⟨ob, ooff, none⟩) n co) ∧ W.cell? ⟨ob, ooff + j * 6, none⟩ = some (.int .u32 (xo : Int)) ∧ W.cell? ⟨ob, ooff + j * 6 + 1, none⟩ = some (.int .i64 xs) ∧ W.cell? ⟨ob, ooff + j * 6 + 2, none⟩ = some (.bool xu) ∧ W.cell? ⟨ob, ooff + j * 6 + 3, none⟩ = some (.slice xA xn xc') ∧ W.cell? ⟨ob, ooff + j * 6 + 4, none⟩ = some (.int .i64 xq) ∧ W.cell? ⟨ob, ooff + j * 6 + 5, none⟩ = some (.slice xB xm xd)) (first | (with_reducible exact KP.out) | go_keep)
              (first
              | (go_at_call 48; (with_reducible refine (CL.out _).mono ?_); (rintro x w5 ⟨rfl, hb⟩); (have Q5 := Lib.hid (Q0.out.drew.trans (hb.mono (HGZ.out wr Q0.out)))); (have RW5 := Lib.hid (OwnK.belowT (OwnK.drew RW.out) hb)); (have LG5 := Lib.hid (Lies.below (Lies.drew LG.out) hb (Lies.lt LG.out))); (have KP := Lib.hid (and_six (Lies.cells6 (LX2.out.below (ZW.out w5 Q5.out) LX2.out.lt)) (HS20.out w5 Q5.out))); (clear hb)))
            clear x0 x1c x2 x3 x4 x5 r0 r1 r2 r3 r4 r5 o0 o1
            go_wp2_with fail
            have LG := LG5
            have RW := RW5
            have QZ := Q5
            obtain ⟨z, hz⟩ : ∃ z, z = w5 := ⟨_, rfl⟩
            rw [← hz]
            rw [← hz] at LG RW QZ
            clear hz
            have hm9s : m9 ≤ 300 := by omega
            have HZa := Lib.hid (HGZ.out z QZ.out)
            have HZb := Lib.hid (HGZ3.out z QZ.out)
            obtain ⟨gl0, gl1⟩ := LG.out.cells2
            obtain ⟨gf0, gf1⟩ := LG.out.free2
            have ga1 := Lib.hid (Lies.cells2 (LG.out.alloc (.cells #[.int .u32 (xo : Int), .int .i64 xs, .bool xu, .slice xA xn xc', .int .i64 xq, .slice xB xm xd] 34))).2
            refine wp_region_noPanic ?_
            refine wp_region_held_drew (S := fun W => W.cell? ⟨w2.heap.size, 1, none⟩ = some (.slice (some ⟨ob, ooff, none⟩) n co) ∧ W.cell? ⟨ob, ooff + j * 6, none⟩ = some (.int .u32 (xo : Int)) ∧ W.cell? ⟨ob, ooff + j * 6 + 1, none⟩ = some (.int .i64 xs) ∧ W.cell? ⟨ob, ooff + j * 6 + 2, none⟩ = some (.bool xu) ∧ W.cell? ⟨ob, ooff + j * 6 + 3, none⟩ = some (.slice xA xn xc') ∧ W.cell? ⟨ob, ooff + j * 6 + 4, none⟩ = some (.int .i64 xq) ∧ W.cell? ⟨ob, ooff + j * 6 + 5, none⟩ = some (.slice xB xm xd)) (by kernel_rfl) (HS20.out z QZ.out) (fun hH0 => ?_)
            refine any_take 0 109 ?vq14x0 rfl rfl (by kernel_rfl) (by kernel_rfl) (by kernel_rfl) (fun _ _ _ h => h) (by rfl) ?hyq14x0 hH0 ?restq14x0
            case hyq14x0 => ((intro W hSw); obtain ⟨s0, s1, s2, s3, s4, s5, s6⟩ := hSw; go_simp; (try with_reducible rfl))
            try simp only [Act.put, List.setIfInBounds_toArray, List.set_cons_zero, List.set_cons_succ]
            refine any_take 2 111 ?vq14x2 rfl rfl (by kernel_rfl) (by kernel_rfl) (by kernel_rfl) (fun _ _ _ h => h) (by rfl) ?hyq14x2 hH0 ?restq14x2
            case hyq14x2 => ((intro W hSw); obtain ⟨s0, s1, s2, s3, s4, s5, s6⟩ := hSw; go_simp; (try with_reducible rfl))
            try simp only [Act.put, List.setIfInBounds_toArray, List.set_cons_zero, List.set_cons_succ]
            refine any_take 3 112 ?vq14x3 rfl rfl (by kernel_rfl) (by kernel_rfl) (by kernel_rfl) (fun _ _ _ h => h) (by rfl) ?hyq14x3 hH0 ?restq14x3
            case hyq14x3 => ((intro W hSw); obtain ⟨s0, s1, s2, s3, s4, s5, s6⟩ := hSw; go_simp; (try with_reducible rfl))
            try simp only [Act.put, List.setIfInBounds_toArray, List.set_cons_zero, List.set_cons_succ]
            refine any_take 4 113 ?vq14x4 rfl rfl (by kernel_rfl) (by kernel_rfl) (by kernel_rfl) (fun _ _ _ h => h) (by rfl) ?hyq14x4 hH0 ?restq14x4
            case hyq14x4 => ((intro W hSw); obtain ⟨s0, s1, s2, s3, s4, s5, s6⟩ := hSw; go_simp; (try with_reducible rfl))
            try simp only [Act.put, List.setIfInBounds_toArray, List.set_cons_zero, List.set_cons_succ]
            refine any_take 5 114 ?vq14x5 rfl rfl (by kernel_rfl) (by kernel_rfl) (by kernel_rfl) (fun _ _ _ h => h) (by rfl) ?hyq14x5 hH0 ?restq14x5
            case hyq14x5 => ((intro W hSw); obtain ⟨s0, s1, s2, s3, s4, s5, s6⟩ := hSw; go_simp; (try with_reducible rfl))
            try simp only [Act.put, List.setIfInBounds_toArray, List.set_cons_zero, List.set_cons_succ]
            refine any_take 6 115 ?vq14x6 rfl rfl (by kernel_rfl) (by kernel_rfl) (by kernel_rfl) (fun _ _ _ h => h) (by rfl) ?hyq14x6 hH0 ?restq14x6
            case hyq14x6 => ((intro W hSw); obtain ⟨s0, s1, s2, s3, s4, s5, s6⟩ := hSw; go_simp; (try with_reducible rfl))
            try simp only [Act.put, List.setIfInBounds_toArray, List.set_cons_zero, List.set_cons_succ]
            refine wpAnyH_ready (rs := [1, 7]) (by kernel_rfl) (by simp) ?_
            refine AllReadyH.cons rfl (fun K hK => ?_) (AllReadyH.cons rfl (fun K hK => ?_) AllReadyH.nil)
            · go_simp
              refine hK.out _ _ (HS20.out z QZ.out) (fun hH1 => ?_)
              clear hK K hH0
              try simp only [Act.put, List.setIfInBounds_toArray, List.set_cons_zero, List.set_cons_succ]
              refine wpAnyH_ready (rs := [7]) (by kernel_rfl) (by simp) ?_
              refine AllReadyH.cons rfl (fun K hK => ?_) AllReadyH.nil
              go_simp
              refine hK.out _ _ (HS20.out (z.alloc (.cells #[.int .u32 (xo : Int), .int .i64 xs, .bool xu, .slice xA xn xc', .int .i64 xq, .slice xB xm xd] 34)) (QZ.out.alloc HZa.out (.cells #[.int .u32 (xo : Int), .int .i64 xs, .bool xu, .slice xA xn xc', .int .i64 xq, .slice xB xm xd] 34))) (fun hH2 => ?_)
              clear hK K hH1
              try simp only [Act.put, List.setIfInBounds_toArray, List.set_cons_zero, List.set_cons_succ]
              refine wpAnyH_ready (rs := [8]) (by kernel_rfl) (by simp) ?_
              refine AllReadyH.cons rfl (fun K hK => ?_) AllReadyH.nil
              refine stp_appendK (some 117) _ _ _ (.tmp 110) (.tmp 116) (w2.heap.size + 1 + 1) (.slice A9 m9 c9) m9 X9 z.heap.size ⟨⟨xo, xs, xu, xa, xq, xr⟩, .slice xA xn xc', .slice xB xm xd⟩ rfl rfl (OwnK.drew (RW.out.alloc (.cells #[.int .u32 (xo : Int), .int .i64 xs, .bool xu, .slice xA xn xc', .int .i64 xq, .slice xB xm xd] 34))) (Lies.drew (Lies.made z 34 #[.int .u32 (xo : Int), .int .i64 xs, .bool xu, .slice xA xn xc', .int .i64 xq, .slice xB xm xd])) ⟨rfl, rfl⟩ (by omega) (by simp; have := HZb.out; omega) ?_
              intro gg cap w9 ho9 hg9 hb9
              have LG9 := Lib.hid (Lies.grown (Lies.drew (LG.out.alloc (.cells #[.int .u32 (xo : Int), .int .i64 xs, .bool xu, .slice xA xn xc', .int .i64 xq, .slice xB xm xd] 34))) hg9 (fun q => by have := RW.out.block _ q.symm; omega))
              have QZ9 := Lib.hid ((QZ.out.alloc HZa.out (.cells #[.int .u32 (xo : Int), .int .i64 xs, .bool xu, .slice xA xn xc', .int .i64 xq, .slice xB xm xd] 34)).drew.grown hg9 (by have := HZa.out; simp; omega) (fun k hk => by have := RW.out.block k hk; omega))
              have RW9 := Lib.hid ho9
              clear ho9 hg9 hb9
              obtain ⟨t0, t1⟩ := LG9.out.cells2
              obtain ⟨v0, v1⟩ := LG9.out.free2
              refine hK.out _ _ (HS20.out w9 QZ9.out) (fun hH3 => ?_)
              clear hK K hH2
              try simp only [Act.put, List.setIfInBounds_toArray, List.set_cons_zero, List.set_cons_succ]
              refine any_take 9 118 ?vq15x9 rfl rfl (by kernel_rfl) (by kernel_rfl) (by kernel_rfl) (fun _ _ _ h => h) (by rfl) ?hyq15x9 hH3 ?restq15x9
              case hyq15x9 => ((intro W hSw); obtain ⟨s0, s1, s2, s3, s4, s5, s6⟩ := hSw; go_simp; (try with_reducible rfl))
              try simp only [Act.put, List.setIfInBounds_toArray, List.set_cons_zero, List.set_cons_succ]
              refine wpAnyH_ready (rs := [10]) (by kernel_rfl) (by simp) ?_
              refine AllReadyH.cons rfl (fun K hK => ?_) AllReadyH.nil
              go_simp
              have QZn := Lib.hid (QZ9.out.setCell (p := ⟨w2.heap.size + 1, 1, none⟩) (Nat.le_refl _) (.slice (some ⟨gg, 0, none⟩) (m9 + 1) cap))
              refine hK.out _ _ (HS20.out _ QZn.out) (fun hH4 => ?_)
              clear hK K hH3 hH4
              try simp only [Act.put, List.setIfInBounds_toArray, List.set_cons_zero, List.set_cons_succ]
              refine wpAnyH_done (by kernel_rfl) ?_ _
              refine NoPanic.normal ?_
              have LGn := Lib.hid (LG9.out.put 1 (.slice (some ⟨gg, 0, none⟩) (m9 + 1) cap))
              have RWn := Lib.hid (OwnK.other' RW9.out (w2.heap.size + 1) (Nat.lt_succ_self _) 1 (.slice (some ⟨gg, 0, none⟩) (m9 + 1) cap))
              clear t0 t1 v0 v1 gl0 gl1 gf0 gf1 ga1
              go_wp2
              go_roundw
              case rel =>
                refine ⟨j + 1, false, m9 + 1, some ⟨gg, 0, none⟩, cap, _, by omega, by go_num, rfl, ?_, RWn.out, LGn.out, QZn.out⟩
                have hm := HMJ.out
                refine .inl ⟨rfl, by omega, fun i hi => ?_, fun i hi => ?_⟩
                · dsimp only
                  by_cases q1 : i = m9
                  · rw [if_pos q1, show i = j by omega, HYJ.out]
                  · rw [if_neg q1]; exact HX9.out i (by omega)
                · by_cases q1 : i = j
                  · rw [q1, HKJ.out]; exact no_lt HLV.out
                  · exact no_lt (HNO9.out i (by omega))
              case measure => simp [intOf]; omega
            · go_simp
              refine hK.out _ _ (HS20.out (z.alloc (.cells #[.int .u32 (xo : Int), .int .i64 xs, .bool xu, .slice xA xn xc', .int .i64 xq, .slice xB xm xd] 34)) (QZ.out.alloc HZa.out (.cells #[.int .u32 (xo : Int), .int .i64 xs, .bool xu, .slice xA xn xc', .int .i64 xq, .slice xB xm xd] 34))) (fun hH1 => ?_)
              clear hK K hH0
              try simp only [Act.put, List.setIfInBounds_toArray, List.set_cons_zero, List.set_cons_succ]
              have e5 := ga1.out
              refine wpAnyH_ready (rs := [1]) (by kernel_rfl) (by simp) ?_
              refine AllReadyH.cons rfl (fun K hK => ?_) AllReadyH.nil
              go_simp
              refine hK.out _ _ (HS20.out (z.alloc (.cells #[.int .u32 (xo : Int), .int .i64 xs, .bool xu, .slice xA xn xc', .int .i64 xq, .slice xB xm xd] 34)) (QZ.out.alloc HZa.out (.cells #[.int .u32 (xo : Int), .int .i64 xs, .bool xu, .slice xA xn xc', .int .i64 xq, .slice xB xm xd] 34))) (fun hH2 => ?_)
              clear hK K hH1
              try simp only [Act.put, List.setIfInBounds_toArray, List.set_cons_zero, List.set_cons_succ]
              clear e5
              refine wpAnyH_ready (rs := [8]) (by kernel_rfl) (by simp) ?_
              refine AllReadyH.cons rfl (fun K hK => ?_) AllReadyH.nil
              refine stp_appendK (some 117) _ _ _ (.tmp 110) (.tmp 116) (w2.heap.size + 1 + 1) (.slice A9 m9 c9) m9 X9 z.heap.size ⟨⟨xo, xs, xu, xa, xq, xr⟩, .slice xA xn xc', .slice xB xm xd⟩ rfl rfl (OwnK.drew (RW.out.alloc (.cells #[.int .u32 (xo : Int), .int .i64 xs, .bool xu, .slice xA xn xc', .int .i64 xq, .slice xB xm xd] 34))) (Lies.drew (Lies.made z 34 #[.int .u32 (xo : Int), .int .i64 xs, .bool xu, .slice xA xn xc', .int .i64 xq, .slice xB xm xd])) ⟨rfl, rfl⟩ (by omega) (by simp; have := HZb.out; omega) ?_
              intro gg cap w9 ho9 hg9 hb9
              have LG9 := Lib.hid (Lies.grown (Lies.drew (LG.out.alloc (.cells #[.int .u32 (xo : Int), .int .i64 xs, .bool xu, .slice xA xn xc', .int .i64 xq, .slice xB xm xd] 34))) hg9 (fun q => by have := RW.out.block _ q.symm; omega))
              have QZ9 := Lib.hid ((QZ.out.alloc HZa.out (.cells #[.int .u32 (xo : Int), .int .i64 xs, .bool xu, .slice xA xn xc', .int .i64 xq, .slice xB xm xd] 34)).drew.grown hg9 (by have := HZa.out; simp; omega) (fun k hk => by have := RW.out.block k hk; omega))
              have RW9 := Lib.hid ho9
              clear ho9 hg9 hb9
              obtain ⟨t0, t1⟩ := LG9.out.cells2
              obtain ⟨v0, v1⟩ := LG9.out.free2
              refine hK.out _ _ (HS20.out w9 QZ9.out) (fun hH3 => ?_)
              clear hK K hH2
              try simp only [Act.put, List.setIfInBounds_toArray, List.set_cons_zero, List.set_cons_succ]
              refine any_take 9 118 ?vq16x9 rfl rfl (by kernel_rfl) (by kernel_rfl) (by kernel_rfl) (fun _ _ _ h => h) (by rfl) ?hyq16x9 hH3 ?restq16x9
              case hyq16x9 => ((intro W hSw); obtain ⟨s0, s1, s2, s3, s4, s5, s6⟩ := hSw; go_simp; (try with_reducible rfl))
              try simp only [Act.put, List.setIfInBounds_toArray, List.set_cons_zero, List.set_cons_succ]
              refine wpAnyH_ready (rs := [10]) (by kernel_rfl) (by simp) ?_
              refine AllReadyH.cons rfl (fun K hK => ?_) AllReadyH.nil
              go_simp
              have QZn := Lib.hid (QZ9.out.setCell (p := ⟨w2.heap.size + 1, 1, none⟩) (Nat.le_refl _) (.slice (some ⟨gg, 0, none⟩) (m9 + 1) cap))
              refine hK.out _ _ (HS20.out _ QZn.out) (fun hH4 => ?_)
              clear hK K hH3 hH4
              try simp only [Act.put, List.setIfInBounds_toArray, List.set_cons_zero, List.set_cons_succ]
              refine wpAnyH_done (by kernel_rfl) ?_ _
              refine NoPanic.normal ?_
              have LGn := Lib.hid (LG9.out.put 1 (.slice (some ⟨gg, 0, none⟩) (m9 + 1) cap))
              have RWn := Lib.hid (OwnK.other' RW9.out (w2.heap.size + 1) (Nat.lt_succ_self _) 1 (.slice (some ⟨gg, 0, none⟩) (m9 + 1) cap))
              clear t0 t1 v0 v1 gl0 gl1 gf0 gf1 ga1
              go_wp2
              go_roundw
              case rel =>
                refine ⟨j + 1, false, m9 + 1, some ⟨gg, 0, none⟩, cap, _, by omega, by go_num, rfl, ?_, RWn.out, LGn.out, QZn.out⟩
                have hm := HMJ.out
                refine .inl ⟨rfl, by omega, fun i hi => ?_, fun i hi => ?_⟩
                · dsimp only
                  by_cases q1 : i = m9
                  · rw [if_pos q1, show i = j by omega, HYJ.out]
                  · rw [if_neg q1]; exact HX9.out i (by omega)
                · by_cases q1 : i = j
                  · rw [q1, HKJ.out]; exact no_lt HLV.out
                  · exact no_lt (HNO9.out i (by omega))
              case measure => simp [intOf]; omega
        · rcases RL.out with ⟨h, -⟩ | ⟨-, hmj, p, hpj, hX9, hno9, hlt9⟩
          · cases h
          have HX9 := Lib.hid hX9
          have HNO9 := Lib.hid (And.intro hno9 hlt9)
          have HMJ := Lib.hid hmj
          clear hX9 hno9 hmj hlt9
          go_wp2_with fail
          clear o0 o1
          have LOr := Lib.hid (LOw.out wr Q0.out)
          refine wp_region_noPanic ?_
          refine wp_region_held_drew (S := fun W => Lies W w2.heap.size 25 #[.int .u32 (ep : Int), .slice (some ⟨ob, ooff, none⟩) n co]) (by kernel_rfl) LOr.out (fun hH0 => ?_)
          refine any_take 0 92 ?vk17x0 rfl rfl (by kernel_rfl) (by kernel_rfl) (by kernel_rfl) (fun _ _ _ h => h) (by rfl) ?hyk17x0 hH0 ?restk17x0
          case hyk17x0 => ((intro W hSw); obtain ⟨o0_0, o0_1⟩ := Lies.cells2 hSw; go_simp; (try with_reducible rfl))
          try simp only [Act.put, List.setIfInBounds_toArray, List.set_cons_zero, List.set_cons_succ]
          refine any_take 1 93 ?vk17x1 rfl rfl (by kernel_rfl) (by kernel_rfl) (by kernel_rfl) (fun _ _ _ h => h) (by rfl) ?hyk17x1 hH0 ?restk17x1
          case hyk17x1 => ((intro W hSw); obtain ⟨o0_0, o0_1⟩ := Lies.cells2 hSw; go_simp; (try with_reducible rfl))
          try simp only [Act.put, List.setIfInBounds_toArray, List.set_cons_zero, List.set_cons_succ]
          refine any_take 2 94 ?vk17x2 rfl rfl (by kernel_rfl) (by kernel_rfl) (by kernel_rfl) (fun _ _ _ h => h) (by rfl) ?hyk17x2 hH0 ?restk17x2
          case hyk17x2 => ((intro W hSw); obtain ⟨o0_0, o0_1⟩ := Lies.cells2 hSw; go_simp; (try with_reducible rfl))
          try simp only [Act.put, List.setIfInBounds_toArray, List.set_cons_zero, List.set_cons_succ]
          refine any_skip 3 95 rfl rfl (by kernel_rfl) (by kernel_rfl) (by kernel_rfl) (fun _ _ _ h => h) (by rfl) hH0 ?_
          try simp only [Act.put, List.setIfInBounds_toArray, List.set_cons_zero, List.set_cons_succ]
          refine any_skip 4 96 rfl rfl (by kernel_rfl) (by kernel_rfl) (by kernel_rfl) (fun _ _ _ h => h) (by rfl) hH0 ?_
          try simp only [Act.put, List.setIfInBounds_toArray, List.set_cons_zero, List.set_cons_succ]
          refine any_skip 5 97 rfl rfl (by kernel_rfl) (by kernel_rfl) (by kernel_rfl) (fun _ _ _ h => h) (by rfl) hH0 ?_
          try simp only [Act.put, List.setIfInBounds_toArray, List.set_cons_zero, List.set_cons_succ]
          refine any_skip 6 98 rfl rfl (by kernel_rfl) (by kernel_rfl) (by kernel_rfl) (fun _ _ _ h => h) (by rfl) hH0 ?_
          try simp only [Act.put, List.setIfInBounds_toArray, List.set_cons_zero, List.set_cons_succ]
          refine any_skip 7 99 rfl rfl (by kernel_rfl) (by kernel_rfl) (by kernel_rfl) (fun _ _ _ h => h) (by rfl) hH0 ?_
          try simp only [Act.put, List.setIfInBounds_toArray, List.set_cons_zero, List.set_cons_succ]
          refine any_skip 8 100 rfl rfl (by kernel_rfl) (by kernel_rfl) (by kernel_rfl) (fun _ _ _ h => h) (by rfl) hH0 ?_
          try simp only [Act.put, List.setIfInBounds_toArray, List.set_cons_zero, List.set_cons_succ]
          refine any_skip 9 101 rfl rfl (by kernel_rfl) (by kernel_rfl) (by kernel_rfl) (fun _ _ _ h => h) (by rfl) hH0 ?_
          try simp only [Act.put, List.setIfInBounds_toArray, List.set_cons_zero, List.set_cons_succ]
          refine any_take 10 102 ?vk17x10 rfl rfl (by kernel_rfl) (by kernel_rfl) (by kernel_rfl) (fun _ _ _ h => h) (by rfl) ?hyk17x10 hH0 ?restk17x10
          case hyk17x10 => ((intro W hSw); obtain ⟨o0_0, o0_1⟩ := Lies.cells2 hSw; go_simp; (try with_reducible rfl))
          try simp only [Act.put, List.setIfInBounds_toArray, List.set_cons_zero, List.set_cons_succ]
          clear hH0
          refine wpAnyH_done (by kernel_rfl) ?_ _
          refine NoPanic.normal ?_
          go_wp2_with fail
          have LGk := Lib.hid (Lies.drew LG.out)
          have RWk := Lib.hid (OwnK.drew RW.out)
          have QZ := Lib.hid Q0.out.drew
          clear LG RW
          have LG := LGk
          have RW := RWk
          obtain ⟨z, hz⟩ : ∃ z, z = wr.drew := ⟨_, rfl⟩
          rw [← hz]
          rw [← hz] at LG RW QZ
          clear hz LGk RWk
          have hm9s : m9 ≤ 300 := by omega
          have HZa := Lib.hid (HGZ.out z QZ.out)
          have HZb := Lib.hid (HGZ3.out z QZ.out)
          obtain ⟨gl0, gl1⟩ := LG.out.cells2
          obtain ⟨gf0, gf1⟩ := LG.out.free2
          have ga1 := Lib.hid (Lies.cells2 (LG.out.alloc (.cells #[.int .u32 (xo : Int), .int .i64 xs, .bool xu, .slice xA xn xc', .int .i64 xq, .slice xB xm xd] 34))).2
          refine wp_region_noPanic ?_
          refine wp_region_held_drew (S := fun W => W.cell? ⟨w2.heap.size, 1, none⟩ = some (.slice (some ⟨ob, ooff, none⟩) n co) ∧ W.cell? ⟨ob, ooff + j * 6, none⟩ = some (.int .u32 (xo : Int)) ∧ W.cell? ⟨ob, ooff + j * 6 + 1, none⟩ = some (.int .i64 xs) ∧ W.cell? ⟨ob, ooff + j * 6 + 2, none⟩ = some (.bool xu) ∧ W.cell? ⟨ob, ooff + j * 6 + 3, none⟩ = some (.slice xA xn xc') ∧ W.cell? ⟨ob, ooff + j * 6 + 4, none⟩ = some (.int .i64 xq) ∧ W.cell? ⟨ob, ooff + j * 6 + 5, none⟩ = some (.slice xB xm xd)) (by kernel_rfl) (HS20.out z QZ.out) (fun hH0 => ?_)
          refine any_take 0 109 ?vq18x0 rfl rfl (by kernel_rfl) (by kernel_rfl) (by kernel_rfl) (fun _ _ _ h => h) (by rfl) ?hyq18x0 hH0 ?restq18x0
          case hyq18x0 => ((intro W hSw); obtain ⟨s0, s1, s2, s3, s4, s5, s6⟩ := hSw; go_simp; (try with_reducible rfl))
          try simp only [Act.put, List.setIfInBounds_toArray, List.set_cons_zero, List.set_cons_succ]
          refine any_take 2 111 ?vq18x2 rfl rfl (by kernel_rfl) (by kernel_rfl) (by kernel_rfl) (fun _ _ _ h => h) (by rfl) ?hyq18x2 hH0 ?restq18x2
          case hyq18x2 => ((intro W hSw); obtain ⟨s0, s1, s2, s3, s4, s5, s6⟩ := hSw; go_simp; (try with_reducible rfl))
          try simp only [Act.put, List.setIfInBounds_toArray, List.set_cons_zero, List.set_cons_succ]
          refine any_take 3 112 ?vq18x3 rfl rfl (by kernel_rfl) (by kernel_rfl) (by kernel_rfl) (fun _ _ _ h => h) (by rfl) ?hyq18x3 hH0 ?restq18x3
          case hyq18x3 => ((intro W hSw); obtain ⟨s0, s1, s2, s3, s4, s5, s6⟩ := hSw; go_simp; (try with_reducible rfl))
          try simp only [Act.put, List.setIfInBounds_toArray, List.set_cons_zero, List.set_cons_succ]
          refine any_take 4 113 ?vq18x4 rfl rfl (by kernel_rfl) (by kernel_rfl) (by kernel_rfl) (fun _ _ _ h => h) (by rfl) ?hyq18x4 hH0 ?restq18x4
          case hyq18x4 => ((intro W hSw); obtain ⟨s0, s1, s2, s3, s4, s5, s6⟩ := hSw; go_simp; (try with_reducible rfl))
          try simp only [Act.put, List.setIfInBounds_toArray, List.set_cons_zero, List.set_cons_succ]
          refine any_take 5 114 ?vq18x5 rfl rfl (by kernel_rfl) (by kernel_rfl) (by kernel_rfl) (fun _ _ _ h => h) (by rfl) ?hyq18x5 hH0 ?restq18x5
          case hyq18x5 => ((intro W hSw); obtain ⟨s0, s1, s2, s3, s4, s5, s6⟩ := hSw; go_simp; (try with_reducible rfl))
          try simp only [Act.put, List.setIfInBounds_toArray, List.set_cons_zero, List.set_cons_succ]
          refine any_take 6 115 ?vq18x6 rfl rfl (by kernel_rfl) (by kernel_rfl) (by kernel_rfl) (fun _ _ _ h => h) (by rfl) ?hyq18x6 hH0 ?restq18x6
          case hyq18x6 => ((intro W hSw); obtain ⟨s0, s1, s2, s3, s4, s5, s6⟩ := hSw; go_simp; (try with_reducible rfl))
          try simp only [Act.put, List.setIfInBounds_toArray, List.set_cons_zero, List.set_cons_succ]
          refine wpAnyH_ready (rs := [1, 7]) (by kernel_rfl) (by simp) ?_
          refine AllReadyH.cons rfl (fun K hK => ?_) (AllReadyH.cons rfl (fun K hK => ?_) AllReadyH.nil)
          · go_simp
            refine hK.out _ _ (HS20.out z QZ.out) (fun hH1 => ?_)
            clear hK K hH0
            try simp only [Act.put, List.setIfInBounds_toArray, List.set_cons_zero, List.set_cons_succ]
            refine wpAnyH_ready (rs := [7]) (by kernel_rfl) (by simp) ?_
            refine AllReadyH.cons rfl (fun K hK => ?_) AllReadyH.nil
            go_simp
            refine hK.out _ _ (HS20.out (z.alloc (.cells #[.int .u32 (xo : Int), .int .i64 xs, .bool xu, .slice xA xn xc', .int .i64 xq, .slice xB xm xd] 34)) (QZ.out.alloc HZa.out (.cells #[.int .u32 (xo : Int), .int .i64 xs, .bool xu, .slice xA xn xc', .int .i64 xq, .slice xB xm xd] 34))) (fun hH2 => ?_)
            clear hK K hH1
            try simp only [Act.put, List.setIfInBounds_toArray, List.set_cons_zero, List.set_cons_succ]
            refine wpAnyH_ready (rs := [8]) (by kernel_rfl) (by simp) ?_
            refine AllReadyH.cons rfl (fun K hK => ?_) AllReadyH.nil
            refine stp_appendK (some 117) _ _ _ (.tmp 110) (.tmp 116) (w2.heap.size + 1 + 1) (.slice A9 m9 c9) m9 X9 z.heap.size ⟨⟨xo, xs, xu, xa, xq, xr⟩, .slice xA xn xc', .slice xB xm xd⟩ rfl rfl (OwnK.drew (RW.out.alloc (.cells #[.int .u32 (xo : Int), .int .i64 xs, .bool xu, .slice xA xn xc', .int .i64 xq, .slice xB xm xd] 34))) (Lies.drew (Lies.made z 34 #[.int .u32 (xo : Int), .int .i64 xs, .bool xu, .slice xA xn xc', .int .i64 xq, .slice xB xm xd])) ⟨rfl, rfl⟩ (by omega) (by simp; have := HZb.out; omega) ?_
            intro gg cap w9 ho9 hg9 hb9
            have LG9 := Lib.hid (Lies.grown (Lies.drew (LG.out.alloc (.cells #[.int .u32 (xo : Int), .int .i64 xs, .bool xu, .slice xA xn xc', .int .i64 xq, .slice xB xm xd] 34))) hg9 (fun q => by have := RW.out.block _ q.symm; omega))
            have QZ9 := Lib.hid ((QZ.out.alloc HZa.out (.cells #[.int .u32 (xo : Int), .int .i64 xs, .bool xu, .slice xA xn xc', .int .i64 xq, .slice xB xm xd] 34)).drew.grown hg9 (by have := HZa.out; simp; omega) (fun k hk => by have := RW.out.block k hk; omega))
            have RW9 := Lib.hid ho9
            clear ho9 hg9 hb9
            obtain ⟨t0, t1⟩ := LG9.out.cells2
            obtain ⟨v0, v1⟩ := LG9.out.free2
            refine hK.out _ _ (HS20.out w9 QZ9.out) (fun hH3 => ?_)
            clear hK K hH2
            try simp only [Act.put, List.setIfInBounds_toArray, List.set_cons_zero, List.set_cons_succ]
            refine any_take 9 118 ?vq19x9 rfl rfl (by kernel_rfl) (by kernel_rfl) (by kernel_rfl) (fun _ _ _ h => h) (by rfl) ?hyq19x9 hH3 ?restq19x9
            case hyq19x9 => ((intro W hSw); obtain ⟨s0, s1, s2, s3, s4, s5, s6⟩ := hSw; go_simp; (try with_reducible rfl))
            try simp only [Act.put, List.setIfInBounds_toArray, List.set_cons_zero, List.set_cons_succ]
            refine wpAnyH_ready (rs := [10]) (by kernel_rfl) (by simp) ?_
            refine AllReadyH.cons rfl (fun K hK => ?_) AllReadyH.nil
            go_simp
            have QZn := Lib.hid (QZ9.out.setCell (p := ⟨w2.heap.size + 1, 1, none⟩) (Nat.le_refl _) (.slice (some ⟨gg, 0, none⟩) (m9 + 1) cap))
            refine hK.out _ _ (HS20.out _ QZn.out) (fun hH4 => ?_)
            clear hK K hH3 hH4
            try simp only [Act.put, List.setIfInBounds_toArray, List.set_cons_zero, List.set_cons_succ]
            refine wpAnyH_done (by kernel_rfl) ?_ _
            refine NoPanic.normal ?_
            have LGn := Lib.hid (LG9.out.put 1 (.slice (some ⟨gg, 0, none⟩) (m9 + 1) cap))
            have RWn := Lib.hid (OwnK.other' RW9.out (w2.heap.size + 1) (Nat.lt_succ_self _) 1 (.slice (some ⟨gg, 0, none⟩) (m9 + 1) cap))
            clear t0 t1 v0 v1 gl0 gl1 gf0 gf1 ga1
            go_wp2
            go_roundw
            case rel =>
              refine ⟨j + 1, true, m9 + 1, some ⟨gg, 0, none⟩, cap, _, by omega, by go_num, rfl, ?_, RWn.out, LGn.out, QZn.out⟩
              have hm := HMJ.out
              refine .inr ⟨rfl, by omega, p, by omega, fun i hi => ?_, (fun i hi => no_lt (HNO9.out.1 i hi)), HNO9.out.2⟩
              dsimp only
              by_cases q1 : i = m9
              · rw [if_pos q1, insX_gt (by omega), show i - 1 = j by omega, HYJ.out]
              · rw [if_neg q1]; exact HX9.out i (by omega)
            case measure => simp [intOf]; omega
          · go_simp
            refine hK.out _ _ (HS20.out (z.alloc (.cells #[.int .u32 (xo : Int), .int .i64 xs, .bool xu, .slice xA xn xc', .int .i64 xq, .slice xB xm xd] 34)) (QZ.out.alloc HZa.out (.cells #[.int .u32 (xo : Int), .int .i64 xs, .bool xu, .slice xA xn xc', .int .i64 xq, .slice xB xm xd] 34))) (fun hH1 => ?_)
            clear hK K hH0
            try simp only [Act.put, List.setIfInBounds_toArray, List.set_cons_zero, List.set_cons_succ]
            have e5 := ga1.out
            refine wpAnyH_ready (rs := [1]) (by kernel_rfl) (by simp) ?_
            refine AllReadyH.cons rfl (fun K hK => ?_) AllReadyH.nil
            go_simp
            refine hK.out _ _ (HS20.out (z.alloc (.cells #[.int .u32 (xo : Int), .int .i64 xs, .bool xu, .slice xA xn xc', .int .i64 xq, .slice xB xm xd] 34)) (QZ.out.alloc HZa.out (.cells #[.int .u32 (xo : Int), .int .i64 xs, .bool xu, .slice xA xn xc', .int .i64 xq, .slice xB xm xd] 34))) (fun hH2 => ?_)
            clear hK K hH1
            try simp only [Act.put, List.setIfInBounds_toArray, List.set_cons_zero, List.set_cons_succ]
            clear e5
            refine wpAnyH_ready (rs := [8]) (by kernel_rfl) (by simp) ?_
            refine AllReadyH.cons rfl (fun K hK => ?_) AllReadyH.nil
            refine stp_appendK (some 117) _ _ _ (.tmp 110) (.tmp 116) (w2.heap.size + 1 + 1) (.slice A9 m9 c9) m9 X9 z.heap.size ⟨⟨xo, xs, xu, xa, xq, xr⟩, .slice xA xn xc', .slice xB xm xd⟩ rfl rfl (OwnK.drew (RW.out.alloc (.cells #[.int .u32 (xo : Int), .int .i64 xs, .bool xu, .slice xA xn xc', .int .i64 xq, .slice xB xm xd] 34))) (Lies.drew (Lies.made z 34 #[.int .u32 (xo : Int), .int .i64 xs, .bool xu, .slice xA xn xc', .int .i64 xq, .slice xB xm xd])) ⟨rfl, rfl⟩ (by omega) (by simp; have := HZb.out; omega) ?_
            intro gg cap w9 ho9 hg9 hb9
            have LG9 := Lib.hid (Lies.grown (Lies.drew (LG.out.alloc (.cells #[.int .u32 (xo : Int), .int .i64 xs, .bool xu, .slice xA xn xc', .int .i64 xq, .slice xB xm xd] 34))) hg9 (fun q => by have := RW.out.block _ q.symm; omega))
            have QZ9 := Lib.hid ((QZ.out.alloc HZa.out (.cells #[.int .u32 (xo : Int), .int .i64 xs, .bool xu, .slice xA xn xc', .int .i64 xq, .slice xB xm xd] 34)).drew.grown hg9 (by have := HZa.out; simp; omega) (fun k hk => by have := RW.out.block k hk; omega))
            have RW9 := Lib.hid ho9
            clear ho9 hg9 hb9
            obtain ⟨t0, t1⟩ := LG9.out.cells2
            obtain ⟨v0, v1⟩ := LG9.out.free2
            refine hK.out _ _ (HS20.out w9 QZ9.out) (fun hH3 => ?_)
            clear hK K hH2
            try simp only [Act.put, List.setIfInBounds_toArray, List.set_cons_zero, List.set_cons_succ]
            refine any_take 9 118 ?vq20x9 rfl rfl (by kernel_rfl) (by kernel_rfl) (by kernel_rfl) (fun _ _ _ h => h) (by rfl) ?hyq20x9 hH3 ?restq20x9
            case hyq20x9 => ((intro W hSw); obtain ⟨s0, s1, s2, s3, s4, s5, s6⟩ := hSw; go_simp; (try with_reducible rfl))
            try simp only [Act.put, List.setIfInBounds_toArray, List.set_cons_zero, List.set_cons_succ]
            refine wpAnyH_ready (rs := [10]) (by kernel_rfl) (by simp) ?_
            refine AllReadyH.cons rfl (fun K hK => ?_) AllReadyH.nil
            go_simp
            have QZn := Lib.hid (QZ9.out.setCell (p := ⟨w2.heap.size + 1, 1, none⟩) (Nat.le_refl _) (.slice (some ⟨gg, 0, none⟩) (m9 + 1) cap))
            refine hK.out _ _ (HS20.out _ QZn.out) (fun hH4 => ?_)
            clear hK K hH3 hH4
            try simp only [Act.put, List.setIfInBounds_toArray, List.set_cons_zero, List.set_cons_succ]
            refine wpAnyH_done (by kernel_rfl) ?_ _
            refine NoPanic.normal ?_
            have LGn := Lib.hid (LG9.out.put 1 (.slice (some ⟨gg, 0, none⟩) (m9 + 1) cap))
            have RWn := Lib.hid (OwnK.other' RW9.out (w2.heap.size + 1) (Nat.lt_succ_self _) 1 (.slice (some ⟨gg, 0, none⟩) (m9 + 1) cap))
            clear t0 t1 v0 v1 gl0 gl1 gf0 gf1 ga1
            go_wp2
            go_roundw
            case rel =>
              refine ⟨j + 1, true, m9 + 1, some ⟨gg, 0, none⟩, cap, _, by omega, by go_num, rfl, ?_, RWn.out, LGn.out, QZn.out⟩
              have hm := HMJ.out
              refine .inr ⟨rfl, by omega, p, by omega, fun i hi => ?_, (fun i hi => no_lt (HNO9.out.1 i hi)), HNO9.out.2⟩
              dsimp only
              by_cases q1 : i = m9
              · rw [if_pos q1, insX_gt (by omega), show i - 1 = j by omega, HYJ.out]
              · rw [if_neg q1]; exact HX9.out i (by omega)
            case measure => simp [intOf]; omega
      · have hjn : j = n := by omega
        have d0 : decide ((j : Int) < (n : Int)) = false := by rw [decide_eq_false_iff_not]; omega
        have d0b : decide (j < n) = false := by rw [decide_eq_false_iff_not]; omega
        obtain ⟨o0, o1⟩ := (LOw.out wr Q0.out).cells2
        cases ld
        · rcases RL.out with ⟨-, hmj, hX9, hno9⟩ | ⟨h, -⟩
          rotate_left
          · cases h
          have HP : Hid (pos T (kn od st un) n = n) := Lib.hid (pos_eq (Nat.le_refl _) (fun k hk => by have h1 : ¬ kn od st un < (Y k).k.k := hno9 k (by omega); have h2 : (T k).k ≠ kn od st un := HNO.out k hk; rw [← HYo.out k hk] at h2 ⊢; omega) (fun k h1 h2 => by omega))
          have HXE : Hid (∀ i, i < n + 1 → (if i < m9 then X9 i else ⟨⟨od, st, un, da, code, reply⟩, .slice D1 da.length d1, .slice D2 reply.length d2⟩) = insX n ⟨⟨od, st, un, da, code, reply⟩, .slice D1 da.length d1, .slice D2 reply.length d2⟩ Y i) := Lib.hid (fun i hi => by
            by_cases q : i < m9
            · rw [if_pos q, insX_lt (by omega)]; exact hX9 i (by omega)
            · rw [if_neg q, show i = n by omega, insX_eq])
          have hmn : m9 = n := by omega
          clear RL hX9 hno9 hmj hjn d0 d0b
          rw [hmn] at RW LG HXE
          clear hmn hm9 m9
          obtain ⟨x0, x1c, x2, x3, x4, x5⟩ := (LX2.out.below (ZW.out wr Q0.out) LX2.out.lt).cells6
          obtain ⟨gl0, gl1⟩ := LG.out.cells2
          obtain ⟨gf0, gf1⟩ := LG.out.free2
          have RW6 := Lib.hid (RW.out.alloc (.cells #[.int .u32 (od : Nat), .int .i64 st, .bool un, .slice D1 da.length d1, .int .i64 code, .slice D2 reply.length d2] 34))
          have LG6 := Lib.hid (LG.out.alloc (.cells #[.int .u32 (od : Nat), .int .i64 st, .bool un, .slice D1 da.length d1, .int .i64 code, .slice D2 reply.length d2] 34))
          have Q6 := Lib.hid (Q0.out.alloc (HGZ.out wr Q0.out) (.cells #[.int .u32 (od : Nat), .int .i64 st, .bool un, .slice D1 da.length d1, .int .i64 code, .slice D2 reply.length d2] 34))
          have HKS : Hid (Ks (wr.alloc (.cells #[.int .u32 (od : Nat), .int .i64 st, .bool un, .slice D1 da.length d1, .int .i64 code, .slice D2 reply.length d2] 34)) (some ⟨wr.heap.size, 0, none⟩) 1 (fun _ => ⟨⟨od, st, un, da, code, reply⟩, .slice D1 da.length d1, .slice D2 reply.length d2⟩)) := Lib.hid (by
            have Z6 := ZW.out _ Q6.out
            refine ⟨fun _ => ⟨wr.heap.size, 0, rfl, fun k hk i hi => ?_⟩, fun _ _ => ⟨(OA2.out.belowOwn Z6).reads, (OB2.out.belowOwn Z6).reads, HBN.out.1, HBN.out.2.1, HBN.out.2.2⟩⟩
            rw [(Lies.made wr 34 #[.int .u32 (od : Nat), .int .i64 st, .bool un, .slice D1 da.length d1, .int .i64 code, .slice D2 reply.length d2]).cell]
            obtain rfl : k = 0 := by omega
            simp)
          have hsz : w2.heap.size + 1 + 1 ≤ (wr.alloc (.cells #[.int .u32 (od : Nat), .int .i64 st, .bool un, .slice D1 da.length d1, .int .i64 code, .slice D2 reply.length d2] 34)).heap.size := HGZ3.out _ Q6.out
          have dj : decide ((j : Int) < (n : Int)) = false := by rw [decide_eq_false_iff_not]; omega
          have djb : decide (j < n) = false := by rw [decide_eq_false_iff_not]; omega
          have hm9s : n ≤ 300 := by omega
          go_wp2_with (first
            | ((with_reducible refine wpl_appendK (some 125) _ _ _ (.tmp 122) (.tmp 124) (w2.heap.size + 1 + 1) (.slice A9 n c9) n X9 (some ⟨wr.heap.size, 0, none⟩) 1 1 (fun _ => ⟨⟨od, st, un, da, code, reply⟩, .slice D1 da.length d1, .slice D2 reply.length d2⟩) ?hs ?hx RW6.out HKS.out ?ha ?hm hsz ?_); (case hs => rfl); (case hx => rfl); (case ha => (intro h; cases h)); (case hm => omega); (intro v7 w7 ho7 hg7 hv7); (obtain ⟨A7, c7, z7, -⟩ := ho7.slice); (subst z7); (have RW7 := Lib.hid ho7); (have LG7 := Lib.hid (Lies.grown LG6.out hg7 (fun q => by have := RW6.out.block _ q.symm; omega))); (have Q7 := Lib.hid (Q6.out.grown hg7 (HGZ.out _ Q6.out) (fun k hk => by have := RW6.out.block k hk; omega))); (clear ho7 hg7 hv7 gl0 gl1 gf0 gf1 o0 o1 x0 x1c x2 x3 x4 x5); (obtain ⟨gl0, gl1⟩ := LG7.out.cells2); (obtain ⟨gf0, gf1⟩ := LG7.out.free2); (have LGz := Lib.hid (LG7.out.put 1 (.slice A7 (n + 1) c7))); (have RWz := Lib.hid (OwnK.other' RW7.out (w2.heap.size + 1) (Nat.lt_succ_self _) 1 (.slice A7 (n + 1) c7))); (have QZz := Lib.hid (Q7.out.setCell (p := ⟨w2.heap.size + 1, 1, none⟩) (Nat.le_refl _) (.slice A7 (n + 1) c7))); (have Zx := Lib.hid (ZW.out _ QZz.out)); (have LRx := Lib.hid (LR6.out.below Zx.out LR6.out.lt)); (obtain ⟨rr0, rr1⟩ := LRx.out.cells2); (obtain ⟨rf0, rf1⟩ := LRx.out.free2); (obtain ⟨gz0, gz1⟩ := Lies.cells2 (show Lies _ (w2.heap.size + 1) 25 #[.int .u32 (e : Nat), .slice A7 (n + 1) c7] from LGz.out))))
          refine ret_fence (w.heap.size + 1 + 1) 25 _ rfl rfl (LRx.out.put2 _ _) rfl rfl ⟨_, insX n ⟨⟨od, st, un, da, code, reply⟩, .slice D1 da.length d1, .slice D2 reply.length d2⟩ Y, rfl, ?_, fun i hi => ?_, below_put2 (BB6.out.trans (Zx.out.mono BB6.out.size)) (by omega) _ _⟩
          · refine NF.put2 ?_ LRx.out _ _
            exact NF.insert (Nat.le_refl n) ((RWz.out.congr HXE.out).mono (by have := BB6.out.size; omega)) (fun i hi => ((NFo.out.below Zx.out).a i hi).mono HX1.out) (fun i hi => ((NFo.out.below Zx.out).r i hi).mono HX1.out) NFo.out.b NFo.out.da NFo.out.dr (OA2.out.belowOwn Zx.out) (OB2.out.belowOwn Zx.out) HBN.out (fun i hi g h1 h2 => FRA.out i hi g h2 h1) (fun i hi g h1 h2 => FRB.out i hi g h2 h1)
          · rw [insX_k, ins_congr (T' := T) (n := n) (Nat.le_refl n) (fun k hk => HYo.out k hk) i hi]
            rw [HP.out]
        · rcases RL.out with ⟨h, -⟩ | ⟨-, hmj, p, hpj, hX9, hno9, hlt9⟩
          · cases h
          have HP : Hid (pos T (kn od st un) n = p) := Lib.hid (pos_eq (by omega) (fun k hk => by have h1 : ¬ kn od st un < (Y k).k.k := hno9 k hk; have h2 : (T k).k ≠ kn od st un := HNO.out k (by omega); rw [← HYo.out k (by omega)] at h2 ⊢; omega) (fun k h1 h2 => by
            have h3 : kn od st un < (Y p).k.k := hlt9
            rw [HYo.out p (by omega)] at h3
            by_cases q : k = p
            · rw [q]; omega
            · have := HOK.out.mono (i := p) (j := k) (by omega) h2; omega))
          have HXE : Hid (∀ i, i < n + 1 → X9 i = insX p ⟨⟨od, st, un, da, code, reply⟩, .slice D1 da.length d1, .slice D2 reply.length d2⟩ Y i) := Lib.hid (fun i hi => hX9 i (by omega))
          have hmn : m9 = n + 1 := by omega
          have hpn : p ≤ n := by omega
          rw [hmn] at RW LG
          clear hX9 hno9 hlt9 hmj hmn hpj
          have Zx := Lib.hid (ZW.out _ Q0.out)
          have LRx := Lib.hid (LR6.out.below Zx.out LR6.out.lt)
          obtain ⟨rr0, rr1⟩ := LRx.out.cells2
          obtain ⟨rf0, rf1⟩ := LRx.out.free2
          obtain ⟨gl0, gl1⟩ := LG.out.cells2
          go_wp2
          refine ret_fence (w.heap.size + 1 + 1) 25 _ rfl rfl (LRx.out.put2 _ _) rfl rfl ⟨_, insX p ⟨⟨od, st, un, da, code, reply⟩, .slice D1 da.length d1, .slice D2 reply.length d2⟩ Y, rfl, ?_, fun i hi => ?_, below_put2 (BB6.out.trans (Zx.out.mono BB6.out.size)) (by omega) _ _⟩
          · refine NF.put2 ?_ LRx.out _ _
            exact NF.insert hpn ((RW.out.congr HXE.out).mono (by have := BB6.out.size; omega)) (fun i hi => ((NFo.out.below Zx.out).a i hi).mono HX1.out) (fun i hi => ((NFo.out.below Zx.out).r i hi).mono HX1.out) NFo.out.b NFo.out.da NFo.out.dr (OA2.out.belowOwn Zx.out) (OB2.out.belowOwn Zx.out) HBN.out (fun i hi g h1 h2 => FRA.out i hi g h2 h1) (fun i hi g h1 h2 => FRB.out i hi g h2 h1)
          · rw [insX_k, ins_congr (T' := T) (n := n) hpn (fun k hk => HYo.out k hk) i hi]
            rw [HP.out]

end Go.Proofs.Ytfcfejmammohpaa
