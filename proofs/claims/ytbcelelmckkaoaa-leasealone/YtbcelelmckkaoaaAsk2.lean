/-
  The contract of asks, kind 2.
-/
import Derived.Test.YtbcelelmckkaoaaAskB
namespace Go.Proofs.Ytbcelelmckkaoaa
open Go.RowKit
set_option linter.unusedVariables false

set_option maxRecDepth 100000 in
set_option maxHeartbeats 4000000 in
theorem asks_2 (k : Nat) (e : Nat) (h : Int) (u : Nat) (m : Int) (now n : Nat) (T : Nat → Ls) (v : Value) (R : Nat) (wt : Nat) (wh : Int) (ln : Nat) (md : Int) (g : Nat) (w : World)
    (hk : k < 100) (hI : Inv k ⟨e, h, u, m⟩ now n T) (hL : Lies w R 48 (rc e h u m now v)) (hO : OwnF w (R + 1) v n T) (hwt : wt < 65536) (hln : ln < 65536) (hg : g < 30) :
    Calls Try.prog 24 #[.pointer (some ⟨R, 0, none⟩), .agg (ac 2 wt wh ln md), .int .u64 (g : Int)] w (AskPost k R w) := by
  obtain ⟨A, c, rfl, hnc, hcm, hAc, hAn⟩ := hO.slice
  have hR := hL.lt
  have htime := hI.time
  have hep : e = n := hI.ep
  have hlen : n ≤ k := hI.len
  have htil : u ≤ 39 * k + 60 := hI.til
  have b1 : n ≤ 100 := by omega
  have b2 : e ≤ 100 := by omega
  have b3 : u ≤ 4000 := by omega
  have hL1 := hL.alloc (.cells (ac 2 wt wh ln md) 52)
  obtain ⟨r0, r1, r2, r3, r4, r5⟩ := hL1.cells6
  obtain ⟨s0, s1, s2, s3, s4, s5⟩ := hL1.free6
  have HI := Lib.hid hI
  have HA := Lib.hid hAn
  have HL0 := Lib.hid hL
  have HO0 := Lib.hid hO
  have HEP := Lib.hid hep
  clear hI hL hL1 hO hAn hAc hep
  go_enter Try.func24, Try.ntmps24
  go_upto_region 1 with fail
  go_region
  generalize hq : (wt : Int) % 40 = q0
  obtain ⟨q, rfl, bq⟩ : ∃ q : Nat, q0 = (q : Int) ∧ q < 40 := ⟨q0.toNat, by omega, by omega⟩
  clear hq
  generalize hN : (now : Int) + (q : Int) = N0
  obtain ⟨N, rfl, bN⟩ : ∃ N : Nat, N0 = (N : Int) ∧ N = now + q := ⟨now + q, by omega, rfl⟩
  clear hN
  obtain ⟨w1, hw1⟩ : ∃ w1, w1 = ((w.setCell ⟨R, 4, none⟩ (.int .u64 (N : Int))).alloc (.cells (ac 2 wt wh ln md) 52)).drew := ⟨_, rfl⟩
  rw [← hw1]
  have b0 : N ≤ 4000 := by omega
  have LR : Hid (Lies w1 R 48 (rc e h u m N (.slice A n c))) := Lib.hid (by rw [hw1]; exact (HL0.out.put 4 _).alloc _)
  have LX : Hid (Lies w1 w.heap.size 52 (ac 2 wt wh ln md)) := Lib.hid (by rw [hw1]; have := Lies.made (w.setCell ⟨R, 4, none⟩ (.int .u64 (N : Int))) 52 (ac 2 wt wh ln md); rwa [show (w.setCell ⟨R, 4, none⟩ (.int .u64 (N : Int))).heap.size = w.heap.size from by simp] at this)
  have OF : Hid (OwnF w1 (R + 1) (.slice A n c) n T) := Lib.hid (by rw [hw1]; exact (HO0.out.other (a := ⟨R, 4, none⟩) (Nat.lt_succ_self R) _).alloc _)
  have BW : Hid (Below R w w1) := Lib.hid (by rw [hw1]; exact (((Below.refl R w).setCell (p := ⟨R, 4, none⟩) (Nat.le_refl R) _).alloc (by simp; omega) _).drew)
  have HN := Lib.hid bN
  clear hw1 r0 r1 r2 r3 r4 r5 s0 s1 s2 s3 s4 s5 HL0 HO0 bN
  obtain ⟨r0, r1, r2, r3, r4, r5⟩ := LR.out.cells6
  obtain ⟨x0, x1, x2, x3, x4⟩ := LX.out.cells5
  go_wp2_with fail
  generalize hz : wrap64 (1 + wrap64 ((IntKind.u64.wrap wh).tmod 2)) = z
  have hzz : z = 1 ∨ z = 2 := by rw [← hz]; exact one_of_two wh
  have HZ := Lib.hid hzz
  clear hz hzz
  generalize hl0 : (1 + (ln : Int) % 60) = l0
  obtain ⟨s, rfl, bs1, bs2⟩ : ∃ s : Nat, l0 = (s : Int) ∧ 1 ≤ s ∧ s ≤ 60 := ⟨l0.toNat, by omega, by omega, by omega⟩
  clear hl0
  go_loop [9, 10] (OwnR n) (fun _ i => n - (intOf i).toNat)
  case atStart => exact ⟨0, 0, by omega, by omega, rfl, rfl⟩
  case round =>
    obtain ⟨j, own, hj, hown, rfl, rfl⟩ := hrel
    by_cases hlt : j < n
    · obtain ⟨b, off, rfl, -, hbR, hbw⟩ := HA.out (by omega)
      obtain ⟨⟨t0, t1, t2, t3⟩, -⟩ := OF.out.at j hlt
      have he1 : (T j).e = j + 1 := (HI.out.each j hlt).1
      have he2 : (T j).e < 4294967296 := by omega
      have hi : (j : Int) < (n : Int) := by omega
      clear he1
      generalize (T j).e = e1 at *
      generalize (T j).h = h1 at *
      generalize (T j).u = u1 at *
      generalize (T j).m = m1 at *
      by_cases hh : h1 = z
      · have z1 : (h1 == z) = true := by simpa using hh
        clear hh
        go_wp2
        go_round
        case rel => exact ⟨j + 1, e1, by omega, he2, by go_num, rfl⟩
        case measure => simp [intOf]; omega
      · have z1 : (h1 == z) = false := by simpa using hh
        clear hh
        go_wp2
        go_round
        case rel => exact ⟨j + 1, own, by omega, hown, by go_num, rfl⟩
        case measure => simp [intOf]; omega
    · obtain rfl : n = j := by omega
      clear hlt hj
      have hP : R < w1.heap.size := LR.out.lt
      have LR2 := Lib.hid (LR.out.alloc (.cells #[.int .u32 (e : Int), .int .i64 h, .int .u64 (u : Int), .int .i64 m] 25))
      have LX2 := Lib.hid (LX.out.alloc (.cells #[.int .u32 (e : Int), .int .i64 h, .int .u64 (u : Int), .int .i64 m] 25))
      have OF2 := Lib.hid (OF.out.alloc (.cells #[.int .u32 (e : Int), .int .i64 h, .int .u64 (u : Int), .int .i64 m] 25))
      have LP2 := Lib.hid (Lies.made w1 25 #[.int .u32 (e : Int), .int .i64 h, .int .u64 (u : Int), .int .i64 m])
      have BW2 := Lib.hid (BW.out.alloc (Nat.le_of_lt hP) (.cells #[.int .u32 (e : Int), .int .i64 h, .int .u64 (u : Int), .int .i64 m] 25))
      have LXk := LX
      have OFk := OF
      clear LR LX OF BW
      obtain ⟨r6, r7, r8, r9, r10, r11⟩ := LR2.out.cells6
      obtain ⟨y0, y1, y2, y3, y4⟩ := LX2.out.cells5
      obtain ⟨p0, p1, p2, p3⟩ := LP2.out.cells4
      obtain ⟨f0, f1, f2, f3⟩ := LP2.out.free4
      have HXP : Hid (w.heap.size < w1.heap.size) := Lib.hid (by have := (show Lies w1 w.heap.size 52 _ from LXk.out).lt; exact this)
      have HNB : Hid (∀ b, (Value.slice A n c).ownBlock = some b → b ≠ w1.heap.size) := Lib.hid (fun b hb => Nat.ne_of_lt (OFk.out.blockLt b hb))
      clear LXk OFk
      go_wp2_with fail
      obtain ⟨⟨E, H, U, M, cd⟩, hS⟩ : ∃ a : Ans, rnS e h u m N z own s = a := ⟨_, rfl⟩
      by_cases hcd : cd = 0
      · subst hcd
        obtain ⟨q1, q2, q3, -, -, -, hck, hU, -, -⟩ := rn_ok hS
        replace q1 := q1.symm
        replace q2 := q2.symm
        replace q3 := q3.symm
        subst q1 q2 q3
        have C : ∀ W, Hid (Calls Try.prog 19 #[.agg #[.int .u32 (e : Int), .int .i64 h, .int .u64 (u : Int), .int .i64 m], .int .u64 (N : Int), .int .i64 z, .int .u32 (own : Int), .int .u64 (s : Int)] W fun x w' => x = .returned (.tuple #[.agg #[.int .u32 (e : Int), .int .i64 h, .int .u64 (U : Int), .int .i64 m], .int .i64 0]) ∧ Below W.heap.size W w') := fun W => Lib.hid (renew_any e h u m N z own s W e h U m 0 hS (by omega) (by omega))
        have HVB := Lib.hid (chk_zero hck)
        have bU : U ≤ 5000 := by omega
        have HUB : Hid (U ≤ u ∨ U ≤ now + q + 60) := Lib.hid (by have := HN.out; omega)
        have d1 : ((e : Int) != (e : Int)) = false := by simp
        have d2 : (h != h) = false := by simp
        clear hS hck hU
        refine wp_region_noPanic ?_
        refine wp_region_held_drew (S := fun W => Lies W R 48 (rc e h u m N (.slice A n c)) ∧ Lies W w.heap.size 52 (ac 2 wt wh ln md)) (by kernel_rfl) ⟨LR2.out, LX2.out⟩ (fun hH0 => ?_)
        refine any_take 0 92 ?vk1x0 rfl rfl (by kernel_rfl) (by kernel_rfl) (by kernel_rfl) (fun _ _ _ h => h) (by rfl) ?hyk1x0 hH0 ?restk1x0
        case hyk1x0 => ((intro W hSw); obtain ⟨o0, o1, o2, o3, o4, o5⟩ := Lies.cells6 hSw.1; obtain ⟨v0, v1, v2, v3, v4⟩ := Lies.cells5 hSw.2; go_simp; (try with_reducible rfl))
        try simp only [Act.put, List.setIfInBounds_toArray, List.set_cons_zero, List.set_cons_succ]
        refine any_take 1 93 ?vk1x1 rfl rfl (by kernel_rfl) (by kernel_rfl) (by kernel_rfl) (fun _ _ _ h => h) (by rfl) ?hyk1x1 hH0 ?restk1x1
        case hyk1x1 => ((intro W hSw); obtain ⟨o0, o1, o2, o3, o4, o5⟩ := Lies.cells6 hSw.1; obtain ⟨v0, v1, v2, v3, v4⟩ := Lies.cells5 hSw.2; go_simp; (try with_reducible rfl))
        try simp only [Act.put, List.setIfInBounds_toArray, List.set_cons_zero, List.set_cons_succ]
        refine any_take 2 94 ?vk1x2 rfl rfl (by kernel_rfl) (by kernel_rfl) (by kernel_rfl) (fun _ _ _ h => h) (by rfl) ?hyk1x2 hH0 ?restk1x2
        case hyk1x2 => ((intro W hSw); obtain ⟨o0, o1, o2, o3, o4, o5⟩ := Lies.cells6 hSw.1; obtain ⟨v0, v1, v2, v3, v4⟩ := Lies.cells5 hSw.2; go_simp; (try with_reducible rfl))
        try simp only [Act.put, List.setIfInBounds_toArray, List.set_cons_zero, List.set_cons_succ]
        refine any_take 3 95 ?vk1x3 rfl rfl (by kernel_rfl) (by kernel_rfl) (by kernel_rfl) (fun _ _ _ h => h) (by rfl) ?hyk1x3 hH0 ?restk1x3
        case hyk1x3 => ((intro W hSw); obtain ⟨o0, o1, o2, o3, o4, o5⟩ := Lies.cells6 hSw.1; obtain ⟨v0, v1, v2, v3, v4⟩ := Lies.cells5 hSw.2; go_simp; (try with_reducible rfl))
        try simp only [Act.put, List.setIfInBounds_toArray, List.set_cons_zero, List.set_cons_succ]
        refine any_take 4 96 ?vk1x4 rfl rfl (by kernel_rfl) (by kernel_rfl) (by kernel_rfl) (fun _ _ _ h => h) (by rfl) ?hyk1x4 hH0 ?restk1x4
        case hyk1x4 => ((intro W hSw); obtain ⟨o0, o1, o2, o3, o4, o5⟩ := Lies.cells6 hSw.1; obtain ⟨v0, v1, v2, v3, v4⟩ := Lies.cells5 hSw.2; go_simp; (try with_reducible rfl))
        try simp only [Act.put, List.setIfInBounds_toArray, List.set_cons_zero, List.set_cons_succ]
        refine any_take 5 97 ?vk1x5 rfl rfl (by kernel_rfl) (by kernel_rfl) (by kernel_rfl) (fun _ _ _ h => h) (by rfl) ?hyk1x5 hH0 ?restk1x5
        case hyk1x5 => ((intro W hSw); obtain ⟨o0, o1, o2, o3, o4, o5⟩ := Lies.cells6 hSw.1; obtain ⟨v0, v1, v2, v3, v4⟩ := Lies.cells5 hSw.2; go_simp; (try with_reducible rfl))
        try simp only [Act.put, List.setIfInBounds_toArray, List.set_cons_zero, List.set_cons_succ]
        refine any_take 6 98 ?vk1x6 rfl rfl (by kernel_rfl) (by kernel_rfl) (by kernel_rfl) (fun _ _ _ h => h) (by rfl) ?hyk1x6 hH0 ?restk1x6
        case hyk1x6 => ((intro W hSw); obtain ⟨o0, o1, o2, o3, o4, o5⟩ := Lies.cells6 hSw.1; obtain ⟨v0, v1, v2, v3, v4⟩ := Lies.cells5 hSw.2; go_simp; (try with_reducible rfl))
        try simp only [Act.put, List.setIfInBounds_toArray, List.set_cons_zero, List.set_cons_succ]
        refine any_take 7 99 ?vk1x7 rfl rfl (by kernel_rfl) (by kernel_rfl) (by kernel_rfl) (fun _ _ _ h => h) (by rfl) ?hyk1x7 hH0 ?restk1x7
        case hyk1x7 => ((intro W hSw); obtain ⟨o0, o1, o2, o3, o4, o5⟩ := Lies.cells6 hSw.1; obtain ⟨v0, v1, v2, v3, v4⟩ := Lies.cells5 hSw.2; go_simp; (try with_reducible rfl))
        try simp only [Act.put, List.setIfInBounds_toArray, List.set_cons_zero, List.set_cons_succ]
        refine any_take 8 100 ?vk1x8 rfl rfl (by kernel_rfl) (by kernel_rfl) (by kernel_rfl) (fun _ _ _ h => h) (by rfl) ?hyk1x8 hH0 ?restk1x8
        case hyk1x8 => ((intro W hSw); obtain ⟨o0, o1, o2, o3, o4, o5⟩ := Lies.cells6 hSw.1; obtain ⟨v0, v1, v2, v3, v4⟩ := Lies.cells5 hSw.2; go_simp; (try with_reducible rfl))
        try simp only [Act.put, List.setIfInBounds_toArray, List.set_cons_zero, List.set_cons_succ]
        refine any_take 9 101 ?vk1x9 rfl rfl (by kernel_rfl) (by kernel_rfl) (by kernel_rfl) (fun _ _ _ h => h) (by rfl) ?hyk1x9 hH0 ?restk1x9
        case hyk1x9 => ((intro W hSw); obtain ⟨o0, o1, o2, o3, o4, o5⟩ := Lies.cells6 hSw.1; obtain ⟨v0, v1, v2, v3, v4⟩ := Lies.cells5 hSw.2; go_simp; (try with_reducible rfl))
        try simp only [Act.put, List.setIfInBounds_toArray, List.set_cons_zero, List.set_cons_succ]
        refine any_take 10 102 ?vk1x10 rfl rfl (by kernel_rfl) (by kernel_rfl) (by kernel_rfl) (fun _ _ _ h => h) (by rfl) ?hyk1x10 hH0 ?restk1x10
        case hyk1x10 => ((intro W hSw); obtain ⟨o0, o1, o2, o3, o4, o5⟩ := Lies.cells6 hSw.1; obtain ⟨v0, v1, v2, v3, v4⟩ := Lies.cells5 hSw.2; go_simp; (try with_reducible rfl))
        try simp only [Act.put, List.setIfInBounds_toArray, List.set_cons_zero, List.set_cons_succ]
        refine wpAnyH_ready (rs := [11]) (by kernel_rfl) (by simp) ?_
        refine AllReadyH.cons rfl (fun K hK => ?_) AllReadyH.nil
        go_simp
        go_at_call 19
        with_reducible refine (C _).out.mono ?_
        rintro y w3 ⟨rfl, hb⟩
        have LR3 := Lib.hid (Lies.below (w := (w1.alloc (.cells #[.int .u32 (e : Int), .int .i64 h, .int .u64 (u : Int), .int .i64 m] 25)).drew) LR2.out hb (Lies.lt LR2.out))
        have LX3 := Lib.hid (Lies.below (w := (w1.alloc (.cells #[.int .u32 (e : Int), .int .i64 h, .int .u64 (u : Int), .int .i64 m] 25)).drew) LX2.out hb (Lies.lt LX2.out))
        have LP3 := Lib.hid (Lies.below (w := (w1.alloc (.cells #[.int .u32 (e : Int), .int .i64 h, .int .u64 (u : Int), .int .i64 m] 25)).drew) LP2.out hb (Lies.lt LP2.out))
        have OF3 := Lib.hid (OwnF.belowT (w := (w1.alloc (.cells #[.int .u32 (e : Int), .int .i64 h, .int .u64 (u : Int), .int .i64 m] 25)).drew) OF2.out hb)
        have BW3 := Lib.hid (BW2.out.drew.trans (hb.mono (Nat.le_of_lt (Lies.lt LR2.out))))
        obtain ⟨a0, a1, a2, a3⟩ := LP3.out.cells4
        obtain ⟨g0, g1, g2, g3⟩ := LP3.out.free4
        refine hK.out _ _ (⟨LR3.out, LX3.out⟩) (fun hH1 => ?_)
        clear hK K hH0 hb r0 r1 r2 r3 r4 r5 x0 x1 x2 x3 x4 r6 r7 r8 r9 r10 r11 y0 y1 y2 y3 y4 p0 p1 p2 p3 f0 f1 f2 f3
        try simp only [Act.put, List.setIfInBounds_toArray, List.set_cons_zero, List.set_cons_succ]
        refine any_take 12 91 ?vk1x12 rfl rfl (by kernel_rfl) (by kernel_rfl) (by kernel_rfl) (fun _ _ _ h => h) (by rfl) ?hyk1x12 hH1 ?restk1x12
        case hyk1x12 => ((intro W hSw); obtain ⟨o0, o1, o2, o3, o4, o5⟩ := Lies.cells6 hSw.1; obtain ⟨v0, v1, v2, v3, v4⟩ := Lies.cells5 hSw.2; go_simp; (try with_reducible rfl))
        try simp only [Act.put, List.setIfInBounds_toArray, List.set_cons_zero, List.set_cons_succ]
        refine any_take 13 104 ?vk1x13 rfl rfl (by kernel_rfl) (by kernel_rfl) (by kernel_rfl) (fun _ _ _ h => h) (by rfl) ?hyk1x13 hH1 ?restk1x13
        case hyk1x13 => ((intro W hSw); obtain ⟨o0, o1, o2, o3, o4, o5⟩ := Lies.cells6 hSw.1; obtain ⟨v0, v1, v2, v3, v4⟩ := Lies.cells5 hSw.2; go_simp; (try with_reducible rfl))
        try simp only [Act.put, List.setIfInBounds_toArray, List.set_cons_zero, List.set_cons_succ]
        refine any_take 14 105 ?vk1x14 rfl rfl (by kernel_rfl) (by kernel_rfl) (by kernel_rfl) (fun _ _ _ h => h) (by rfl) ?hyk1x14 hH1 ?restk1x14
        case hyk1x14 => ((intro W hSw); obtain ⟨o0, o1, o2, o3, o4, o5⟩ := Lies.cells6 hSw.1; obtain ⟨v0, v1, v2, v3, v4⟩ := Lies.cells5 hSw.2; go_simp; (try with_reducible rfl))
        try simp only [Act.put, List.setIfInBounds_toArray, List.set_cons_zero, List.set_cons_succ]
        refine wpAnyH_ready (rs := [15]) (by kernel_rfl) (by simp) ?_
        refine AllReadyH.cons rfl (fun K hK => ?_) AllReadyH.nil
        go_simp
        have hPX : w.heap.size ≠ w1.heap.size := Nat.ne_of_lt HXP.out
        refine hK.out _ _ ⟨LR3.out.put4_other (Nat.ne_of_lt hP) _ _ _ _, LX3.out.put4_other hPX _ _ _ _⟩ (fun hH2 => ?_)
        clear hK K hH1
        try simp only [Act.put, List.setIfInBounds_toArray, List.set_cons_zero, List.set_cons_succ]
        refine any_take 16 12 ?vk1x16 rfl rfl (by kernel_rfl) (by kernel_rfl) (by kernel_rfl) (fun _ _ _ h => h) (by rfl) ?hyk1x16 hH2 ?restk1x16
        case hyk1x16 => ((intro W hSw); obtain ⟨o0, o1, o2, o3, o4, o5⟩ := Lies.cells6 hSw.1; obtain ⟨v0, v1, v2, v3, v4⟩ := Lies.cells5 hSw.2; go_simp; (try with_reducible rfl))
        try simp only [Act.put, List.setIfInBounds_toArray, List.set_cons_zero, List.set_cons_succ]
        clear hH2
        refine wpAnyH_done (by kernel_rfl) ?_ _
        refine NoPanic.normal ?_
        obtain ⟨w4, hw4⟩ : ∃ w4, w4 = ((((w3.setCell ⟨w1.heap.size, 0, none⟩ (.int .u32 (e : Int))).setCell ⟨w1.heap.size, 1, none⟩ (.int .i64 h)).setCell ⟨w1.heap.size, 2, none⟩ (.int .u64 (U : Int))).setCell ⟨w1.heap.size, 3, none⟩ (.int .i64 m)) := ⟨_, rfl⟩
        rw [← hw4]
        have LR4 : Hid (Lies w4 R 48 (rc e h u m N (.slice A n c))) := Lib.hid (by rw [hw4]; exact LR3.out.put4_other (Nat.ne_of_lt hP) _ _ _ _)
        have LX4 : Hid (Lies w4 w.heap.size 52 (ac 2 wt wh ln md)) := Lib.hid (by rw [hw4]; exact LX3.out.put4_other hPX _ _ _ _)
        have LP4 : Hid (Lies w4 w1.heap.size 25 #[.int .u32 (e : Int), .int .i64 h, .int .u64 (U : Int), .int .i64 m]) := Lib.hid (by rw [hw4]; exact LP3.out.put4 _ _ _ _)
        have OF4 : Hid (OwnF w4 (R + 1) (.slice A n c) n T) := Lib.hid (by rw [hw4]; exact OwnF.put4 OF3.out HNB.out _ _ _ _)
        have BW4 : Hid (Below R w w4) := Lib.hid (by rw [hw4]; exact below_put4 BW3.out (Nat.le_of_lt hP) _ _ _ _)
        clear hw4 a0 a1 a2 a3 g0 g1 g2 g3 LR3 LX3 LP3 OF3 BW3 LR2 LX2 LP2 OF2 BW2
        obtain ⟨r0, r1, r2, r3, r4, r5⟩ := LR4.out.cells6
        obtain ⟨s0, s1, s2, s3, s4, s5⟩ := LR4.out.free6
        obtain ⟨x0, x1, x2, x3, x4⟩ := LX4.out.cells5
        obtain ⟨p0, p1, p2, p3⟩ := LP4.out.cells4
        go_wp2_with fail
        go_quiet (fail)
        obtain ⟨v6, hv6⟩ : ∃ v6, Value.slice A n c = v6 := ⟨_, rfl⟩
        obtain ⟨n6, hn6⟩ : ∃ n6, n = n6 := ⟨_, rfl⟩
        obtain ⟨T6, hT6⟩ : ∃ T6 : Nat → Ls, T = T6 := ⟨_, rfl⟩
        obtain ⟨w6, hw6⟩ : ∃ w6, w6 = w4.drewN nq := ⟨_, rfl⟩
        rw [← hw6]
        have LR6 : Hid (Lies w6 R 48 (rc e h u m N v6)) := Lib.hid (by rw [hw6, ← hv6]; exact Lies.drewN LR4.out _)
        have LP6 := Lib.hid (Lies.drewN LP4.out nq)
        rw [← hw6] at LP6
        have OF6 : Hid (OwnF w6 (R + 1) v6 n6 T6) := Lib.hid (by rw [hw6, ← hv6, ← hn6, ← hT6]; exact OwnF.drewN OF4.out _)
        have BW6 : Hid (Below R w w6) := Lib.hid (by rw [hw6]; exact below_drewN BW4.out _)
        have HNB6 : Hid (∀ b, v6.ownBlock = some b → b ≠ w1.heap.size) := Lib.hid (by rw [← hv6]; exact HNB.out)
        have HT6 := Lib.hid hT6
        have HN6 := Lib.hid hn6
        have b6 : n6 ≤ 101 := by omega
        clear hw6 hv6 hn6 hT6
        clear LR4 OF4 LP4 BW4 LX4 r0 r1 r2 r3 r4 r5 s0 s1 s2 s3 s4 s5 x0 x1 x2 x3 x4 p0 p1 p2 p3
        obtain ⟨A1, c1, rfl, hnc1, hcm1, -, hAn1⟩ := OF6.out.slice
        have HA1 := Lib.hid hAn1
        clear hAn1
        obtain ⟨r0, r1, r2, r3, r4, r5⟩ := LR6.out.cells6
        obtain ⟨s0, s1, s2, s3, s4, s5⟩ := LR6.out.free6
        obtain ⟨p0, p1, p2, p3⟩ := LP6.out.cells4
        go_wp2_with fail
        obtain ⟨w7, hw7⟩ : ∃ w7, w7 = ((((w6.setCell ⟨R, 0, none⟩ (.int .u32 (e : Int))).setCell ⟨R, 1, none⟩ (.int .i64 h)).setCell ⟨R, 2, none⟩ (.int .u64 (U : Int))).setCell ⟨R, 3, none⟩ (.int .i64 m)) := ⟨_, rfl⟩
        rw [← hw7]
        have LR7 : Hid (Lies w7 R 48 (rc e h U m N (.slice A1 n6 c1))) := Lib.hid (by rw [hw7]; exact (((LR6.out.put 0 _).put 1 _).put 2 _).put 3 _)
        have LP7 : Hid (Lies w7 w1.heap.size 25 #[.int .u32 (e : Int), .int .i64 h, .int .u64 (U : Int), .int .i64 m]) := Lib.hid (by rw [hw7]; exact LP6.out.put4_other (Nat.ne_of_gt hP) _ _ _ _)
        have OF7 : Hid (OwnF w7 (R + 1) (.slice A1 n6 c1) n6 T6) := Lib.hid (by rw [hw7]; exact OwnF.put4 OF6.out (fun b hb => by have := OF6.out.block b hb; omega) _ _ _ _)
        have BW7 : Hid (Below R w w7) := Lib.hid (by rw [hw7]; exact below_put4 BW6.out (Nat.le_refl R) _ _ _ _)
        have HPB : Hid (∀ b, (Value.slice A1 n6 c1).ownBlock = some b → b ≠ w1.heap.size) := HNB6
        clear hw7 LR6 LP6 OF6 BW6 r0 r1 r2 r3 r4 r5 s0 s1 s2 s3 s4 s5 p0 p1 p2 p3
        go_loopw [13] (UpR R w1.heap.size n6 (rc e h U m N (.slice A1 n6 c1)) #[.int .u32 (e : Int), .int .i64 h, .int .u64 (U : Int), .int .i64 m] (.slice A1 n6 c1) T6 ⟨e, h, U, m⟩ w) (fun i _ => n6 - (intOf i).toNat)
        case atStart => exact ⟨0, by omega, rfl, LR7.out, LP7.out, by rw [upd_zero]; exact OF7.out, BW7.out⟩
        case round =>
          obtain ⟨j, hj, rfl, hLR, hLP, hOF, hBW⟩ := hrel
          have LR8 := Lib.hid hLR
          have LP8 := Lib.hid hLP
          have OF8 := Lib.hid hOF
          have BW8 := Lib.hid hBW
          clear hLR hLP hOF hBW LR7 LP7 OF7 BW7
          obtain ⟨r0, r1, r2, r3, r4, r5⟩ := LR8.out.cells6
          obtain ⟨p0, p1, p2, p3⟩ := LP8.out.cells4
          by_cases hlt : j < n6
          · obtain ⟨b, off, rfl, -, hbR, -⟩ := HA1.out (by omega)
            have hbP : b ≠ w1.heap.size := HPB.out b rfl
            have hi : (j : Int) < ((n6 : Nat) : Int) := by omega
            have hat := OF8.out.at j hlt
            rw [upd_at] at hat
            obtain ⟨⟨t0, t1, t2, t3⟩, v0, v1, v2, v3⟩ := hat
            by_cases hh : (T6 j).e = e
            · have HH := Lib.hid hh
              have z1 : (((T6 j).e : Int) == (e : Int)) = true := by simp; omega
              clear hh
              generalize (T6 j).h = h1 at *
              generalize (T6 j).u = u1 at *
              generalize (T6 j).m = m1 at *
              obtain ⟨e1, he1⟩ : ∃ e1, (T6 j).e = e1 := ⟨_, rfl⟩
              rw [he1] at t0 z1
              have HE1 := Lib.hid he1
              clear he1
              go_wp2_with fail
              go_quiet (fail)
              go_wp2_with fail
              go_region
              go_wp2
              go_roundw
              case rel => exact ⟨j + 1, by omega, by go_num, Lies.ste_other (LR8.out.drewN _) (by omega) _ _ _ _, Lies.ste_other (LP8.out.drewN _) (Ne.symm hbP) _ _ _ _, by rw [upd_yes _ _ _ HH.out]; exact OwnF.set (OF8.out.drewN _) j hlt ⟨e, h, U, m⟩, below_ste (below_drewN BW8.out _) (by omega) _ _ _ _⟩
              case measure => simp [intOf]; omega
            · have HH := Lib.hid hh
              have z1 : (((T6 j).e : Int) == (e : Int)) = false := by simp; omega
              clear hh
              generalize (T6 j).h = h1 at *
              generalize (T6 j).u = u1 at *
              generalize (T6 j).m = m1 at *
              obtain ⟨e1, he1⟩ : ∃ e1, (T6 j).e = e1 := ⟨_, rfl⟩
              rw [he1] at t0 z1
              have HE1 := Lib.hid he1
              clear he1
              go_wp2_with fail
              go_quiet (fail)
              go_wp2
              go_roundw
              case rel => exact ⟨j + 1, by omega, by go_num, LR8.out.drewN _, LP8.out.drewN _, by rw [upd_no _ _ _ HH.out]; exact OF8.out, below_drewN BW8.out _⟩
              case measure => simp [intOf]; omega
          · obtain hjn : j = n6 := by omega
            subst hjn
            clear hlt hj
            go_wp2
            go_ret
            exact ⟨rfl, e, h, U, m, N, _, _, _, by rw [HN.out, ← HT6.out, ← HN6.out]; exact (HI.out.keep bq (a := ⟨e, h, U, m⟩) rfl HVB.out HUB.out), LR8.out, OF8.out, BW8.out⟩
      · obtain ⟨rfl, rfl, rfl, rfl⟩ := rn_bad hS hcd
        have C : ∀ W, Hid (Calls Try.prog 19 #[.agg #[.int .u32 (e : Int), .int .i64 h, .int .u64 (u : Int), .int .i64 m], .int .u64 (N : Int), .int .i64 z, .int .u32 (own : Int), .int .u64 (s : Int)] W fun x w' => x = .returned (.tuple #[.agg #[.int .u32 0, .int .i64 0, .int .u64 0, .int .i64 0], .int .i64 cd]) ∧ Below W.heap.size W w') := fun W => Lib.hid (renew_any e h u m N z own s W 0 0 0 0 cd hS (by omega) (by omega))
        have c1 : (cd != 0) = true := by simpa using hcd
        clear hS hcd
        refine wp_region_noPanic ?_
        refine wp_region_held_drew (S := fun W => Lies W R 48 (rc e h u m N (.slice A n c)) ∧ Lies W w.heap.size 52 (ac 2 wt wh ln md)) (by kernel_rfl) ⟨LR2.out, LX2.out⟩ (fun hH0 => ?_)
        refine any_take 0 92 ?vk2x0 rfl rfl (by kernel_rfl) (by kernel_rfl) (by kernel_rfl) (fun _ _ _ h => h) (by rfl) ?hyk2x0 hH0 ?restk2x0
        case hyk2x0 => ((intro W hSw); obtain ⟨o0, o1, o2, o3, o4, o5⟩ := Lies.cells6 hSw.1; obtain ⟨v0, v1, v2, v3, v4⟩ := Lies.cells5 hSw.2; go_simp; (try with_reducible rfl))
        try simp only [Act.put, List.setIfInBounds_toArray, List.set_cons_zero, List.set_cons_succ]
        refine any_take 1 93 ?vk2x1 rfl rfl (by kernel_rfl) (by kernel_rfl) (by kernel_rfl) (fun _ _ _ h => h) (by rfl) ?hyk2x1 hH0 ?restk2x1
        case hyk2x1 => ((intro W hSw); obtain ⟨o0, o1, o2, o3, o4, o5⟩ := Lies.cells6 hSw.1; obtain ⟨v0, v1, v2, v3, v4⟩ := Lies.cells5 hSw.2; go_simp; (try with_reducible rfl))
        try simp only [Act.put, List.setIfInBounds_toArray, List.set_cons_zero, List.set_cons_succ]
        refine any_take 2 94 ?vk2x2 rfl rfl (by kernel_rfl) (by kernel_rfl) (by kernel_rfl) (fun _ _ _ h => h) (by rfl) ?hyk2x2 hH0 ?restk2x2
        case hyk2x2 => ((intro W hSw); obtain ⟨o0, o1, o2, o3, o4, o5⟩ := Lies.cells6 hSw.1; obtain ⟨v0, v1, v2, v3, v4⟩ := Lies.cells5 hSw.2; go_simp; (try with_reducible rfl))
        try simp only [Act.put, List.setIfInBounds_toArray, List.set_cons_zero, List.set_cons_succ]
        refine any_take 3 95 ?vk2x3 rfl rfl (by kernel_rfl) (by kernel_rfl) (by kernel_rfl) (fun _ _ _ h => h) (by rfl) ?hyk2x3 hH0 ?restk2x3
        case hyk2x3 => ((intro W hSw); obtain ⟨o0, o1, o2, o3, o4, o5⟩ := Lies.cells6 hSw.1; obtain ⟨v0, v1, v2, v3, v4⟩ := Lies.cells5 hSw.2; go_simp; (try with_reducible rfl))
        try simp only [Act.put, List.setIfInBounds_toArray, List.set_cons_zero, List.set_cons_succ]
        refine any_take 4 96 ?vk2x4 rfl rfl (by kernel_rfl) (by kernel_rfl) (by kernel_rfl) (fun _ _ _ h => h) (by rfl) ?hyk2x4 hH0 ?restk2x4
        case hyk2x4 => ((intro W hSw); obtain ⟨o0, o1, o2, o3, o4, o5⟩ := Lies.cells6 hSw.1; obtain ⟨v0, v1, v2, v3, v4⟩ := Lies.cells5 hSw.2; go_simp; (try with_reducible rfl))
        try simp only [Act.put, List.setIfInBounds_toArray, List.set_cons_zero, List.set_cons_succ]
        refine any_take 5 97 ?vk2x5 rfl rfl (by kernel_rfl) (by kernel_rfl) (by kernel_rfl) (fun _ _ _ h => h) (by rfl) ?hyk2x5 hH0 ?restk2x5
        case hyk2x5 => ((intro W hSw); obtain ⟨o0, o1, o2, o3, o4, o5⟩ := Lies.cells6 hSw.1; obtain ⟨v0, v1, v2, v3, v4⟩ := Lies.cells5 hSw.2; go_simp; (try with_reducible rfl))
        try simp only [Act.put, List.setIfInBounds_toArray, List.set_cons_zero, List.set_cons_succ]
        refine any_take 6 98 ?vk2x6 rfl rfl (by kernel_rfl) (by kernel_rfl) (by kernel_rfl) (fun _ _ _ h => h) (by rfl) ?hyk2x6 hH0 ?restk2x6
        case hyk2x6 => ((intro W hSw); obtain ⟨o0, o1, o2, o3, o4, o5⟩ := Lies.cells6 hSw.1; obtain ⟨v0, v1, v2, v3, v4⟩ := Lies.cells5 hSw.2; go_simp; (try with_reducible rfl))
        try simp only [Act.put, List.setIfInBounds_toArray, List.set_cons_zero, List.set_cons_succ]
        refine any_take 7 99 ?vk2x7 rfl rfl (by kernel_rfl) (by kernel_rfl) (by kernel_rfl) (fun _ _ _ h => h) (by rfl) ?hyk2x7 hH0 ?restk2x7
        case hyk2x7 => ((intro W hSw); obtain ⟨o0, o1, o2, o3, o4, o5⟩ := Lies.cells6 hSw.1; obtain ⟨v0, v1, v2, v3, v4⟩ := Lies.cells5 hSw.2; go_simp; (try with_reducible rfl))
        try simp only [Act.put, List.setIfInBounds_toArray, List.set_cons_zero, List.set_cons_succ]
        refine any_take 8 100 ?vk2x8 rfl rfl (by kernel_rfl) (by kernel_rfl) (by kernel_rfl) (fun _ _ _ h => h) (by rfl) ?hyk2x8 hH0 ?restk2x8
        case hyk2x8 => ((intro W hSw); obtain ⟨o0, o1, o2, o3, o4, o5⟩ := Lies.cells6 hSw.1; obtain ⟨v0, v1, v2, v3, v4⟩ := Lies.cells5 hSw.2; go_simp; (try with_reducible rfl))
        try simp only [Act.put, List.setIfInBounds_toArray, List.set_cons_zero, List.set_cons_succ]
        refine any_take 9 101 ?vk2x9 rfl rfl (by kernel_rfl) (by kernel_rfl) (by kernel_rfl) (fun _ _ _ h => h) (by rfl) ?hyk2x9 hH0 ?restk2x9
        case hyk2x9 => ((intro W hSw); obtain ⟨o0, o1, o2, o3, o4, o5⟩ := Lies.cells6 hSw.1; obtain ⟨v0, v1, v2, v3, v4⟩ := Lies.cells5 hSw.2; go_simp; (try with_reducible rfl))
        try simp only [Act.put, List.setIfInBounds_toArray, List.set_cons_zero, List.set_cons_succ]
        refine any_take 10 102 ?vk2x10 rfl rfl (by kernel_rfl) (by kernel_rfl) (by kernel_rfl) (fun _ _ _ h => h) (by rfl) ?hyk2x10 hH0 ?restk2x10
        case hyk2x10 => ((intro W hSw); obtain ⟨o0, o1, o2, o3, o4, o5⟩ := Lies.cells6 hSw.1; obtain ⟨v0, v1, v2, v3, v4⟩ := Lies.cells5 hSw.2; go_simp; (try with_reducible rfl))
        try simp only [Act.put, List.setIfInBounds_toArray, List.set_cons_zero, List.set_cons_succ]
        refine wpAnyH_ready (rs := [11]) (by kernel_rfl) (by simp) ?_
        refine AllReadyH.cons rfl (fun K hK => ?_) AllReadyH.nil
        go_simp
        go_at_call 19
        with_reducible refine (C _).out.mono ?_
        rintro y w3 ⟨rfl, hb⟩
        have LR3 := Lib.hid (Lies.below (w := (w1.alloc (.cells #[.int .u32 (e : Int), .int .i64 h, .int .u64 (u : Int), .int .i64 m] 25)).drew) LR2.out hb (Lies.lt LR2.out))
        have LX3 := Lib.hid (Lies.below (w := (w1.alloc (.cells #[.int .u32 (e : Int), .int .i64 h, .int .u64 (u : Int), .int .i64 m] 25)).drew) LX2.out hb (Lies.lt LX2.out))
        have LP3 := Lib.hid (Lies.below (w := (w1.alloc (.cells #[.int .u32 (e : Int), .int .i64 h, .int .u64 (u : Int), .int .i64 m] 25)).drew) LP2.out hb (Lies.lt LP2.out))
        have OF3 := Lib.hid (OwnF.belowT (w := (w1.alloc (.cells #[.int .u32 (e : Int), .int .i64 h, .int .u64 (u : Int), .int .i64 m] 25)).drew) OF2.out hb)
        have BW3 := Lib.hid (BW2.out.drew.trans (hb.mono (Nat.le_of_lt (Lies.lt LR2.out))))
        obtain ⟨a0, a1, a2, a3⟩ := LP3.out.cells4
        obtain ⟨g0, g1, g2, g3⟩ := LP3.out.free4
        refine hK.out _ _ (⟨LR3.out, LX3.out⟩) (fun hH1 => ?_)
        clear hK K hH0 hb r0 r1 r2 r3 r4 r5 x0 x1 x2 x3 x4 r6 r7 r8 r9 r10 r11 y0 y1 y2 y3 y4 p0 p1 p2 p3 f0 f1 f2 f3
        try simp only [Act.put, List.setIfInBounds_toArray, List.set_cons_zero, List.set_cons_succ]
        refine any_take 12 91 ?vk2x12 rfl rfl (by kernel_rfl) (by kernel_rfl) (by kernel_rfl) (fun _ _ _ h => h) (by rfl) ?hyk2x12 hH1 ?restk2x12
        case hyk2x12 => ((intro W hSw); obtain ⟨o0, o1, o2, o3, o4, o5⟩ := Lies.cells6 hSw.1; obtain ⟨v0, v1, v2, v3, v4⟩ := Lies.cells5 hSw.2; go_simp; (try with_reducible rfl))
        try simp only [Act.put, List.setIfInBounds_toArray, List.set_cons_zero, List.set_cons_succ]
        refine any_take 13 104 ?vk2x13 rfl rfl (by kernel_rfl) (by kernel_rfl) (by kernel_rfl) (fun _ _ _ h => h) (by rfl) ?hyk2x13 hH1 ?restk2x13
        case hyk2x13 => ((intro W hSw); obtain ⟨o0, o1, o2, o3, o4, o5⟩ := Lies.cells6 hSw.1; obtain ⟨v0, v1, v2, v3, v4⟩ := Lies.cells5 hSw.2; go_simp; (try with_reducible rfl))
        try simp only [Act.put, List.setIfInBounds_toArray, List.set_cons_zero, List.set_cons_succ]
        refine any_take 14 105 ?vk2x14 rfl rfl (by kernel_rfl) (by kernel_rfl) (by kernel_rfl) (fun _ _ _ h => h) (by rfl) ?hyk2x14 hH1 ?restk2x14
        case hyk2x14 => ((intro W hSw); obtain ⟨o0, o1, o2, o3, o4, o5⟩ := Lies.cells6 hSw.1; obtain ⟨v0, v1, v2, v3, v4⟩ := Lies.cells5 hSw.2; go_simp; (try with_reducible rfl))
        try simp only [Act.put, List.setIfInBounds_toArray, List.set_cons_zero, List.set_cons_succ]
        refine wpAnyH_ready (rs := [15]) (by kernel_rfl) (by simp) ?_
        refine AllReadyH.cons rfl (fun K hK => ?_) AllReadyH.nil
        go_simp
        have hPX : w.heap.size ≠ w1.heap.size := Nat.ne_of_lt HXP.out
        refine hK.out _ _ ⟨LR3.out.put4_other (Nat.ne_of_lt hP) _ _ _ _, LX3.out.put4_other hPX _ _ _ _⟩ (fun hH2 => ?_)
        clear hK K hH1
        try simp only [Act.put, List.setIfInBounds_toArray, List.set_cons_zero, List.set_cons_succ]
        refine any_take 16 12 ?vk2x16 rfl rfl (by kernel_rfl) (by kernel_rfl) (by kernel_rfl) (fun _ _ _ h => h) (by rfl) ?hyk2x16 hH2 ?restk2x16
        case hyk2x16 => ((intro W hSw); obtain ⟨o0, o1, o2, o3, o4, o5⟩ := Lies.cells6 hSw.1; obtain ⟨v0, v1, v2, v3, v4⟩ := Lies.cells5 hSw.2; go_simp; (try with_reducible rfl))
        try simp only [Act.put, List.setIfInBounds_toArray, List.set_cons_zero, List.set_cons_succ]
        clear hH2
        refine wpAnyH_done (by kernel_rfl) ?_ _
        refine NoPanic.normal ?_
        obtain ⟨w4, hw4⟩ : ∃ w4, w4 = ((((w3.setCell ⟨w1.heap.size, 0, none⟩ (.int .u32 0)).setCell ⟨w1.heap.size, 1, none⟩ (.int .i64 0)).setCell ⟨w1.heap.size, 2, none⟩ (.int .u64 0)).setCell ⟨w1.heap.size, 3, none⟩ (.int .i64 0)) := ⟨_, rfl⟩
        rw [← hw4]
        have LR4 : Hid (Lies w4 R 48 (rc e h u m N (.slice A n c))) := Lib.hid (by rw [hw4]; exact LR3.out.put4_other (Nat.ne_of_lt hP) _ _ _ _)
        have LX4 : Hid (Lies w4 w.heap.size 52 (ac 2 wt wh ln md)) := Lib.hid (by rw [hw4]; exact LX3.out.put4_other hPX _ _ _ _)
        have LP4 : Hid (Lies w4 w1.heap.size 25 #[.int .u32 0, .int .i64 0, .int .u64 0, .int .i64 0]) := Lib.hid (by rw [hw4]; exact LP3.out.put4 _ _ _ _)
        have OF4 : Hid (OwnF w4 (R + 1) (.slice A n c) n T) := Lib.hid (by rw [hw4]; exact OwnF.put4 OF3.out HNB.out _ _ _ _)
        have BW4 : Hid (Below R w w4) := Lib.hid (by rw [hw4]; exact below_put4 BW3.out (Nat.le_of_lt hP) _ _ _ _)
        clear hw4 a0 a1 a2 a3 g0 g1 g2 g3 LR3 LX3 LP3 OF3 BW3 LR2 LX2 LP2 OF2 BW2
        obtain ⟨r0, r1, r2, r3, r4, r5⟩ := LR4.out.cells6
        obtain ⟨s0, s1, s2, s3, s4, s5⟩ := LR4.out.free6
        obtain ⟨x0, x1, x2, x3, x4⟩ := LX4.out.cells5
        obtain ⟨p0, p1, p2, p3⟩ := LP4.out.cells4
        go_wp2_with fail
        go_ret
        exact ⟨rfl, e, h, u, m, N, n, T, _, by rw [HN.out]; exact HI.out.wait bq, LR4.out, OF4.out, BW4.out⟩

end Go.Proofs.Ytbcelelmckkaoaa
