/-
  The contract of asks, kind 1.
-/
import Derived.Test.YtbcelelmckkaoaaAskB
namespace Go.Proofs.Ytbcelelmckkaoaa
open Go.RowKit
set_option linter.unusedVariables false

set_option maxRecDepth 100000 in
set_option maxHeartbeats 4000000 in
theorem asks_1 (k : Nat) (e : Nat) (h : Int) (u : Nat) (m : Int) (now n : Nat) (T : Nat → Ls) (v : Value) (R : Nat) (wt : Nat) (wh : Int) (ln : Nat) (md : Int) (g : Nat) (w : World)
    (hk : k < 100) (hI : Inv k ⟨e, h, u, m⟩ now n T) (hL : Lies w R 48 (rc e h u m now v)) (hO : OwnF w (R + 1) v n T) (hwt : wt < 65536) (hln : ln < 65536) (hg : g < 30) :
    Calls Try.prog 24 #[.pointer (some ⟨R, 0, none⟩), .agg (ac 1 wt wh ln md), .int .u64 (g : Int)] w (AskPost k R w) := by
  obtain ⟨A, c, rfl, hnc, hcm, hAc, hAn⟩ := hO.slice
  have hR := hL.lt
  have htime := hI.time
  have hep : e = n := hI.ep
  have hlen : n ≤ k := hI.len
  have htil : u ≤ 39 * k + 60 := hI.til
  have b1 : n ≤ 100 := by omega
  have b2 : e ≤ 100 := by omega
  have b3 : u ≤ 4000 := by omega
  have hL1 := hL.alloc (.cells (ac 1 wt wh ln md) 52)
  obtain ⟨r0, r1, r2, r3, r4, r5⟩ := hL1.cells6
  obtain ⟨s0, s1, s2, s3, s4, s5⟩ := hL1.free6
  have HI := Lib.hid hI
  have HA := Lib.hid hAn
  have HL0 := Lib.hid hL
  have HO0 := Lib.hid hO
  have HEP := Lib.hid hep
  clear hI hL hL1 hO hAn hAc hep
  go_enter Try.func24, Try.ntmps24
  go_upto_region 1 with fail
  go_region
  generalize hq : (wt : Int) % 40 = q0
  obtain ⟨q, rfl, bq⟩ : ∃ q : Nat, q0 = (q : Int) ∧ q < 40 := ⟨q0.toNat, by omega, by omega⟩
  clear hq
  generalize hN : (now : Int) + (q : Int) = N0
  obtain ⟨N, rfl, bN⟩ : ∃ N : Nat, N0 = (N : Int) ∧ N = now + q := ⟨now + q, by omega, rfl⟩
  clear hN
  obtain ⟨w1, hw1⟩ : ∃ w1, w1 = ((w.setCell ⟨R, 4, none⟩ (.int .u64 (N : Int))).alloc (.cells (ac 1 wt wh ln md) 52)).drew := ⟨_, rfl⟩
  rw [← hw1]
  have b0 : N ≤ 4000 := by omega
  have LR : Hid (Lies w1 R 48 (rc e h u m N (.slice A n c))) := Lib.hid (by rw [hw1]; exact (HL0.out.put 4 _).alloc _)
  have LX : Hid (Lies w1 w.heap.size 52 (ac 1 wt wh ln md)) := Lib.hid (by rw [hw1]; have := Lies.made (w.setCell ⟨R, 4, none⟩ (.int .u64 (N : Int))) 52 (ac 1 wt wh ln md); rwa [show (w.setCell ⟨R, 4, none⟩ (.int .u64 (N : Int))).heap.size = w.heap.size from by simp] at this)
  have OF : Hid (OwnF w1 (R + 1) (.slice A n c) n T) := Lib.hid (by rw [hw1]; exact (HO0.out.other (a := ⟨R, 4, none⟩) (Nat.lt_succ_self R) _).alloc _)
  have BW : Hid (Below R w w1) := Lib.hid (by rw [hw1]; exact (((Below.refl R w).setCell (p := ⟨R, 4, none⟩) (Nat.le_refl R) _).alloc (by simp; omega) _).drew)
  have HN := Lib.hid bN
  clear hw1 r0 r1 r2 r3 r4 r5 s0 s1 s2 s3 s4 s5 HL0 HO0 bN
  obtain ⟨r0, r1, r2, r3, r4, r5⟩ := LR.out.cells6
  obtain ⟨x0, x1, x2, x3, x4⟩ := LX.out.cells5
  go_wp2_with fail
  generalize hz : wrap64 (1 + wrap64 ((IntKind.u64.wrap wh).tmod 2)) = z
  have hzz : z = 1 ∨ z = 2 := by rw [← hz]; exact one_of_two wh
  have HZ := Lib.hid hzz
  clear hz hzz
  generalize hl0 : (1 + (ln : Int) % 60) = l0
  obtain ⟨s, rfl, bs1, bs2⟩ : ∃ s : Nat, l0 = (s : Int) ∧ 1 ≤ s ∧ s ≤ 60 := ⟨l0.toNat, by omega, by omega, by omega⟩
  clear hl0
  go_loop [9, 10] (OwnR n) (fun _ i => n - (intOf i).toNat)
  case atStart => exact ⟨0, 0, by omega, by omega, rfl, rfl⟩
  case round =>
    obtain ⟨j, own, hj, hown, rfl, rfl⟩ := hrel
    by_cases hlt : j < n
    · obtain ⟨b, off, rfl, -, hbR, hbw⟩ := HA.out (by omega)
      obtain ⟨⟨t0, t1, t2, t3⟩, -⟩ := OF.out.at j hlt
      have he1 : (T j).e = j + 1 := (HI.out.each j hlt).1
      have he2 : (T j).e < 4294967296 := by omega
      have hi : (j : Int) < (n : Int) := by omega
      clear he1
      generalize (T j).e = e1 at *
      generalize (T j).h = h1 at *
      generalize (T j).u = u1 at *
      generalize (T j).m = m1 at *
      by_cases hh : h1 = z
      · have z1 : (h1 == z) = true := by simpa using hh
        clear hh
        go_wp2
        go_round
        case rel => exact ⟨j + 1, e1, by omega, he2, by go_num, rfl⟩
        case measure => simp [intOf]; omega
      · have z1 : (h1 == z) = false := by simpa using hh
        clear hh
        go_wp2
        go_round
        case rel => exact ⟨j + 1, own, by omega, hown, by go_num, rfl⟩
        case measure => simp [intOf]; omega
    · obtain rfl : n = j := by omega
      clear hlt hj
      have hP : R < w1.heap.size := LR.out.lt
      have LR2 := Lib.hid (LR.out.alloc (.cells #[.int .u32 (e : Int), .int .i64 h, .int .u64 (u : Int), .int .i64 m] 25))
      have LX2 := Lib.hid (LX.out.alloc (.cells #[.int .u32 (e : Int), .int .i64 h, .int .u64 (u : Int), .int .i64 m] 25))
      have OF2 := Lib.hid (OF.out.alloc (.cells #[.int .u32 (e : Int), .int .i64 h, .int .u64 (u : Int), .int .i64 m] 25))
      have LP2 := Lib.hid (Lies.made w1 25 #[.int .u32 (e : Int), .int .i64 h, .int .u64 (u : Int), .int .i64 m])
      have BW2 := Lib.hid (BW.out.alloc (Nat.le_of_lt hP) (.cells #[.int .u32 (e : Int), .int .i64 h, .int .u64 (u : Int), .int .i64 m] 25))
      have LXk := LX
      have OFk := OF
      clear LR LX OF BW
      obtain ⟨r6, r7, r8, r9, r10, r11⟩ := LR2.out.cells6
      obtain ⟨y0, y1, y2, y3, y4⟩ := LX2.out.cells5
      obtain ⟨p0, p1, p2, p3⟩ := LP2.out.cells4
      obtain ⟨f0, f1, f2, f3⟩ := LP2.out.free4
      have HXP : Hid (w.heap.size < w1.heap.size) := Lib.hid (by have := (show Lies w1 w.heap.size 52 _ from LXk.out).lt; exact this)
      have HNB : Hid (∀ b, (Value.slice A n c).ownBlock = some b → b ≠ w1.heap.size) := Lib.hid (fun b hb => Nat.ne_of_lt (OFk.out.blockLt b hb))
      clear LXk OFk
      go_wp2_with fail
      obtain ⟨⟨E, H, U, M, cd⟩, hS⟩ : ∃ a : Ans, grS e h u m N z s g = a := ⟨_, rfl⟩
      by_cases hcd : cd = 0
      · subst hcd
        obtain ⟨hE, q2, hU, q4, hvB, -, hfr⟩ := gr_ok hS
        replace q2 := q2.symm
        replace q4 := q4.symm
        subst q2 q4
        have C : ∀ W, Hid (Calls Try.prog 17 #[.agg #[.int .u32 (e : Int), .int .i64 h, .int .u64 (u : Int), .int .i64 m], .int .u64 (N : Int), .int .i64 z, .int .u64 (s : Int), .int .u64 (g : Int)] W fun x w' => x = .returned (.tuple #[.agg #[.int .u32 (E : Int), .int .i64 z, .int .u64 (U : Int), .int .i64 m], .int .i64 0]) ∧ Below W.heap.size W w') := fun W => Lib.hid (grant_any e h u m N z s g W E z U m 0 hS (by omega) (by omega) (by omega) (by omega))
        have HEE := Lib.hid hE
        have HUU := Lib.hid hU
        have HVB := Lib.hid hvB
        have HFR := Lib.hid hfr
        have bE : E ≤ 101 := by omega
        have bU : U ≤ 5000 := by omega
        have d1 : ((E : Int) != (e : Int) + 1) = false := by simp; omega
        have d2 : (z != z) = false := by simp
        clear hS hE hU hvB hfr
        refine wp_region_noPanic ?_
        refine wp_region_held_drew (S := fun W => Lies W R 48 (rc e h u m N (.slice A n c)) ∧ Lies W w.heap.size 52 (ac 1 wt wh ln md)) (by kernel_rfl) ⟨LR2.out, LX2.out⟩ (fun hH0 => ?_)
        refine any_take 0 74 ?vk4x0 rfl rfl (by kernel_rfl) (by kernel_rfl) (by kernel_rfl) (fun _ _ _ h => h) (by rfl) ?hyk4x0 hH0 ?restk4x0
        case hyk4x0 => ((intro W hSw); obtain ⟨o0, o1, o2, o3, o4, o5⟩ := Lies.cells6 hSw.1; obtain ⟨v0, v1, v2, v3, v4⟩ := Lies.cells5 hSw.2; go_simp; (try with_reducible rfl))
        try simp only [Act.put, List.setIfInBounds_toArray, List.set_cons_zero, List.set_cons_succ]
        refine any_take 1 75 ?vk4x1 rfl rfl (by kernel_rfl) (by kernel_rfl) (by kernel_rfl) (fun _ _ _ h => h) (by rfl) ?hyk4x1 hH0 ?restk4x1
        case hyk4x1 => ((intro W hSw); obtain ⟨o0, o1, o2, o3, o4, o5⟩ := Lies.cells6 hSw.1; obtain ⟨v0, v1, v2, v3, v4⟩ := Lies.cells5 hSw.2; go_simp; (try with_reducible rfl))
        try simp only [Act.put, List.setIfInBounds_toArray, List.set_cons_zero, List.set_cons_succ]
        refine any_take 2 76 ?vk4x2 rfl rfl (by kernel_rfl) (by kernel_rfl) (by kernel_rfl) (fun _ _ _ h => h) (by rfl) ?hyk4x2 hH0 ?restk4x2
        case hyk4x2 => ((intro W hSw); obtain ⟨o0, o1, o2, o3, o4, o5⟩ := Lies.cells6 hSw.1; obtain ⟨v0, v1, v2, v3, v4⟩ := Lies.cells5 hSw.2; go_simp; (try with_reducible rfl))
        try simp only [Act.put, List.setIfInBounds_toArray, List.set_cons_zero, List.set_cons_succ]
        refine any_take 3 77 ?vk4x3 rfl rfl (by kernel_rfl) (by kernel_rfl) (by kernel_rfl) (fun _ _ _ h => h) (by rfl) ?hyk4x3 hH0 ?restk4x3
        case hyk4x3 => ((intro W hSw); obtain ⟨o0, o1, o2, o3, o4, o5⟩ := Lies.cells6 hSw.1; obtain ⟨v0, v1, v2, v3, v4⟩ := Lies.cells5 hSw.2; go_simp; (try with_reducible rfl))
        try simp only [Act.put, List.setIfInBounds_toArray, List.set_cons_zero, List.set_cons_succ]
        refine any_take 4 78 ?vk4x4 rfl rfl (by kernel_rfl) (by kernel_rfl) (by kernel_rfl) (fun _ _ _ h => h) (by rfl) ?hyk4x4 hH0 ?restk4x4
        case hyk4x4 => ((intro W hSw); obtain ⟨o0, o1, o2, o3, o4, o5⟩ := Lies.cells6 hSw.1; obtain ⟨v0, v1, v2, v3, v4⟩ := Lies.cells5 hSw.2; go_simp; (try with_reducible rfl))
        try simp only [Act.put, List.setIfInBounds_toArray, List.set_cons_zero, List.set_cons_succ]
        refine any_take 5 79 ?vk4x5 rfl rfl (by kernel_rfl) (by kernel_rfl) (by kernel_rfl) (fun _ _ _ h => h) (by rfl) ?hyk4x5 hH0 ?restk4x5
        case hyk4x5 => ((intro W hSw); obtain ⟨o0, o1, o2, o3, o4, o5⟩ := Lies.cells6 hSw.1; obtain ⟨v0, v1, v2, v3, v4⟩ := Lies.cells5 hSw.2; go_simp; (try with_reducible rfl))
        try simp only [Act.put, List.setIfInBounds_toArray, List.set_cons_zero, List.set_cons_succ]
        refine any_take 6 80 ?vk4x6 rfl rfl (by kernel_rfl) (by kernel_rfl) (by kernel_rfl) (fun _ _ _ h => h) (by rfl) ?hyk4x6 hH0 ?restk4x6
        case hyk4x6 => ((intro W hSw); obtain ⟨o0, o1, o2, o3, o4, o5⟩ := Lies.cells6 hSw.1; obtain ⟨v0, v1, v2, v3, v4⟩ := Lies.cells5 hSw.2; go_simp; (try with_reducible rfl))
        try simp only [Act.put, List.setIfInBounds_toArray, List.set_cons_zero, List.set_cons_succ]
        refine any_take 7 81 ?vk4x7 rfl rfl (by kernel_rfl) (by kernel_rfl) (by kernel_rfl) (fun _ _ _ h => h) (by rfl) ?hyk4x7 hH0 ?restk4x7
        case hyk4x7 => ((intro W hSw); obtain ⟨o0, o1, o2, o3, o4, o5⟩ := Lies.cells6 hSw.1; obtain ⟨v0, v1, v2, v3, v4⟩ := Lies.cells5 hSw.2; go_simp; (try with_reducible rfl))
        try simp only [Act.put, List.setIfInBounds_toArray, List.set_cons_zero, List.set_cons_succ]
        refine any_take 8 82 ?vk4x8 rfl rfl (by kernel_rfl) (by kernel_rfl) (by kernel_rfl) (fun _ _ _ h => h) (by rfl) ?hyk4x8 hH0 ?restk4x8
        case hyk4x8 => ((intro W hSw); obtain ⟨o0, o1, o2, o3, o4, o5⟩ := Lies.cells6 hSw.1; obtain ⟨v0, v1, v2, v3, v4⟩ := Lies.cells5 hSw.2; go_simp; (try with_reducible rfl))
        try simp only [Act.put, List.setIfInBounds_toArray, List.set_cons_zero, List.set_cons_succ]
        refine any_take 9 83 ?vk4x9 rfl rfl (by kernel_rfl) (by kernel_rfl) (by kernel_rfl) (fun _ _ _ h => h) (by rfl) ?hyk4x9 hH0 ?restk4x9
        case hyk4x9 => ((intro W hSw); obtain ⟨o0, o1, o2, o3, o4, o5⟩ := Lies.cells6 hSw.1; obtain ⟨v0, v1, v2, v3, v4⟩ := Lies.cells5 hSw.2; go_simp; (try with_reducible rfl))
        try simp only [Act.put, List.setIfInBounds_toArray, List.set_cons_zero, List.set_cons_succ]
        refine any_take 10 84 ?vk4x10 rfl rfl (by kernel_rfl) (by kernel_rfl) (by kernel_rfl) (fun _ _ _ h => h) (by rfl) ?hyk4x10 hH0 ?restk4x10
        case hyk4x10 => ((intro W hSw); obtain ⟨o0, o1, o2, o3, o4, o5⟩ := Lies.cells6 hSw.1; obtain ⟨v0, v1, v2, v3, v4⟩ := Lies.cells5 hSw.2; go_simp; (try with_reducible rfl))
        try simp only [Act.put, List.setIfInBounds_toArray, List.set_cons_zero, List.set_cons_succ]
        refine wpAnyH_ready (rs := [11]) (by kernel_rfl) (by simp) ?_
        refine AllReadyH.cons rfl (fun K hK => ?_) AllReadyH.nil
        go_simp
        go_at_call 17
        with_reducible refine (C _).out.mono ?_
        rintro y w3 ⟨rfl, hb⟩
        have LR3 := Lib.hid (Lies.below (w := (w1.alloc (.cells #[.int .u32 (e : Int), .int .i64 h, .int .u64 (u : Int), .int .i64 m] 25)).drew) LR2.out hb (Lies.lt LR2.out))
        have LX3 := Lib.hid (Lies.below (w := (w1.alloc (.cells #[.int .u32 (e : Int), .int .i64 h, .int .u64 (u : Int), .int .i64 m] 25)).drew) LX2.out hb (Lies.lt LX2.out))
        have LP3 := Lib.hid (Lies.below (w := (w1.alloc (.cells #[.int .u32 (e : Int), .int .i64 h, .int .u64 (u : Int), .int .i64 m] 25)).drew) LP2.out hb (Lies.lt LP2.out))
        have OF3 := Lib.hid (OwnF.belowT (w := (w1.alloc (.cells #[.int .u32 (e : Int), .int .i64 h, .int .u64 (u : Int), .int .i64 m] 25)).drew) OF2.out hb)
        have BW3 := Lib.hid (BW2.out.drew.trans (hb.mono (Nat.le_of_lt (Lies.lt LR2.out))))
        obtain ⟨a0, a1, a2, a3⟩ := LP3.out.cells4
        obtain ⟨g0, g1, g2, g3⟩ := LP3.out.free4
        refine hK.out _ _ (⟨LR3.out, LX3.out⟩) (fun hH1 => ?_)
        clear hK K hH0 hb r0 r1 r2 r3 r4 r5 x0 x1 x2 x3 x4 r6 r7 r8 r9 r10 r11 y0 y1 y2 y3 y4 p0 p1 p2 p3 f0 f1 f2 f3
        try simp only [Act.put, List.setIfInBounds_toArray, List.set_cons_zero, List.set_cons_succ]
        refine any_take 12 73 ?vk4x12 rfl rfl (by kernel_rfl) (by kernel_rfl) (by kernel_rfl) (fun _ _ _ h => h) (by rfl) ?hyk4x12 hH1 ?restk4x12
        case hyk4x12 => ((intro W hSw); obtain ⟨o0, o1, o2, o3, o4, o5⟩ := Lies.cells6 hSw.1; obtain ⟨v0, v1, v2, v3, v4⟩ := Lies.cells5 hSw.2; go_simp; (try with_reducible rfl))
        try simp only [Act.put, List.setIfInBounds_toArray, List.set_cons_zero, List.set_cons_succ]
        refine any_take 13 86 ?vk4x13 rfl rfl (by kernel_rfl) (by kernel_rfl) (by kernel_rfl) (fun _ _ _ h => h) (by rfl) ?hyk4x13 hH1 ?restk4x13
        case hyk4x13 => ((intro W hSw); obtain ⟨o0, o1, o2, o3, o4, o5⟩ := Lies.cells6 hSw.1; obtain ⟨v0, v1, v2, v3, v4⟩ := Lies.cells5 hSw.2; go_simp; (try with_reducible rfl))
        try simp only [Act.put, List.setIfInBounds_toArray, List.set_cons_zero, List.set_cons_succ]
        refine any_take 14 87 ?vk4x14 rfl rfl (by kernel_rfl) (by kernel_rfl) (by kernel_rfl) (fun _ _ _ h => h) (by rfl) ?hyk4x14 hH1 ?restk4x14
        case hyk4x14 => ((intro W hSw); obtain ⟨o0, o1, o2, o3, o4, o5⟩ := Lies.cells6 hSw.1; obtain ⟨v0, v1, v2, v3, v4⟩ := Lies.cells5 hSw.2; go_simp; (try with_reducible rfl))
        try simp only [Act.put, List.setIfInBounds_toArray, List.set_cons_zero, List.set_cons_succ]
        refine wpAnyH_ready (rs := [15]) (by kernel_rfl) (by simp) ?_
        refine AllReadyH.cons rfl (fun K hK => ?_) AllReadyH.nil
        go_simp
        have hPX : w.heap.size ≠ w1.heap.size := Nat.ne_of_lt HXP.out
        refine hK.out _ _ ⟨LR3.out.put4_other (Nat.ne_of_lt hP) _ _ _ _, LX3.out.put4_other hPX _ _ _ _⟩ (fun hH2 => ?_)
        clear hK K hH1
        try simp only [Act.put, List.setIfInBounds_toArray, List.set_cons_zero, List.set_cons_succ]
        refine any_take 16 12 ?vk4x16 rfl rfl (by kernel_rfl) (by kernel_rfl) (by kernel_rfl) (fun _ _ _ h => h) (by rfl) ?hyk4x16 hH2 ?restk4x16
        case hyk4x16 => ((intro W hSw); obtain ⟨o0, o1, o2, o3, o4, o5⟩ := Lies.cells6 hSw.1; obtain ⟨v0, v1, v2, v3, v4⟩ := Lies.cells5 hSw.2; go_simp; (try with_reducible rfl))
        try simp only [Act.put, List.setIfInBounds_toArray, List.set_cons_zero, List.set_cons_succ]
        clear hH2
        refine wpAnyH_done (by kernel_rfl) ?_ _
        refine NoPanic.normal ?_
        obtain ⟨w4, hw4⟩ : ∃ w4, w4 = ((((w3.setCell ⟨w1.heap.size, 0, none⟩ (.int .u32 (E : Int))).setCell ⟨w1.heap.size, 1, none⟩ (.int .i64 z)).setCell ⟨w1.heap.size, 2, none⟩ (.int .u64 (U : Int))).setCell ⟨w1.heap.size, 3, none⟩ (.int .i64 m)) := ⟨_, rfl⟩
        rw [← hw4]
        have LR4 : Hid (Lies w4 R 48 (rc e h u m N (.slice A n c))) := Lib.hid (by rw [hw4]; exact LR3.out.put4_other (Nat.ne_of_lt hP) _ _ _ _)
        have LX4 : Hid (Lies w4 w.heap.size 52 (ac 1 wt wh ln md)) := Lib.hid (by rw [hw4]; exact LX3.out.put4_other hPX _ _ _ _)
        have LP4 : Hid (Lies w4 w1.heap.size 25 #[.int .u32 (E : Int), .int .i64 z, .int .u64 (U : Int), .int .i64 m]) := Lib.hid (by rw [hw4]; exact LP3.out.put4 _ _ _ _)
        have OF4 : Hid (OwnF w4 (R + 1) (.slice A n c) n T) := Lib.hid (by rw [hw4]; exact OwnF.put4 OF3.out HNB.out _ _ _ _)
        have BW4 : Hid (Below R w w4) := Lib.hid (by rw [hw4]; exact below_put4 BW3.out (Nat.le_of_lt hP) _ _ _ _)
        clear hw4 a0 a1 a2 a3 g0 g1 g2 g3 LR3 LX3 LP3 OF3 BW3 LR2 LX2 LP2 OF2 BW2
        obtain ⟨r0, r1, r2, r3, r4, r5⟩ := LR4.out.cells6
        obtain ⟨s0, s1, s2, s3, s4, s5⟩ := LR4.out.free6
        obtain ⟨x0, x1, x2, x3, x4⟩ := LX4.out.cells5
        obtain ⟨p0, p1, p2, p3⟩ := LP4.out.cells4
        go_wp2_with fail
        go_quiet (fail)
        go_wp2_with fail
        obtain ⟨w5, hw5⟩ : ∃ w5, w5 = w4.drewN nq := ⟨_, rfl⟩
        rw [← hw5]
        have LR5 : Hid (Lies w5 R 48 (rc e h u m N (.slice A n c))) := Lib.hid (by rw [hw5]; exact LR4.out)
        have OF5 : Hid (OwnF w5 (R + 1) (.slice A n c) n T) := Lib.hid (by rw [hw5]; exact OF4.out)
        have LP5 := Lib.hid (Lies.drewN LP4.out nq)
        rw [← hw5] at LP5
        have BW5 : Hid (Below R w w5) := Lib.hid (by rw [hw5]; exact below_drewN BW4.out nq)
        clear hw5 LR4 OF4 LP4 BW4 LX4 r0 r1 r2 r3 r4 r5 s0 s1 s2 s3 s4 s5 x0 x1 x2 x3 x4 p0 p1 p2 p3
        obtain ⟨r0, r1, r2, r3, r4, r5⟩ := LR5.out.cells6
        obtain ⟨s0, s1, s2, s3, s4, s5⟩ := LR5.out.free6
        obtain ⟨p0, p1, p2, p3⟩ := LP5.out.cells4
        go_cut [12] (fun s5 wx => s5 = .int .i64 0 ∧ ∃ v', Lies wx R 48 (rc e h u m N v') ∧ Lies wx w1.heap.size 25 #[.int .u32 (E : Int), .int .i64 z, .int .u64 (U : Int), .int .i64 m] ∧ OwnF wx (R + 1) v' (n + 1) (fun i => if i = n then ⟨E, z, U, m⟩ else T i) ∧ Below R w wx ∧ ∀ b, v'.ownBlock = some b → b ≠ w1.heap.size)
        case first =>
          have r5a := Lib.hid (Lies.cells6 (Lies.alloc (w := w5) LR5.out (.cells #[.int .u32 (E : Int), .int .i64 z, .int .u64 (U : Int), .int .i64 m] 25))).2.2.2.2.2
          refine wp_region_noPanic ?_
          refine wp_region_held_drew (S := fun W => Lies W w1.heap.size 25 #[.int .u32 (E : Int), .int .i64 z, .int .u64 (U : Int), .int .i64 m]) (by kernel_rfl) LP5.out (fun hH0 => ?_)
          refine any_take 0 156 ?vk1x0 rfl rfl (by kernel_rfl) (by kernel_rfl) (by kernel_rfl) (fun _ _ _ h => h) (by rfl) ?hyk1x0 hH0 ?restk1x0
          case hyk1x0 => ((intro W hSw); obtain ⟨o0, o1, o2, o3⟩ := Lies.cells4 hSw; go_simp; (try with_reducible rfl))
          try simp only [Act.put, List.setIfInBounds_toArray, List.set_cons_zero, List.set_cons_succ]
          refine any_take 1 157 ?vk1x1 rfl rfl (by kernel_rfl) (by kernel_rfl) (by kernel_rfl) (fun _ _ _ h => h) (by rfl) ?hyk1x1 hH0 ?restk1x1
          case hyk1x1 => ((intro W hSw); obtain ⟨o0, o1, o2, o3⟩ := Lies.cells4 hSw; go_simp; (try with_reducible rfl))
          try simp only [Act.put, List.setIfInBounds_toArray, List.set_cons_zero, List.set_cons_succ]
          refine any_take 2 158 ?vk1x2 rfl rfl (by kernel_rfl) (by kernel_rfl) (by kernel_rfl) (fun _ _ _ h => h) (by rfl) ?hyk1x2 hH0 ?restk1x2
          case hyk1x2 => ((intro W hSw); obtain ⟨o0, o1, o2, o3⟩ := Lies.cells4 hSw; go_simp; (try with_reducible rfl))
          try simp only [Act.put, List.setIfInBounds_toArray, List.set_cons_zero, List.set_cons_succ]
          refine any_take 3 159 ?vk1x3 rfl rfl (by kernel_rfl) (by kernel_rfl) (by kernel_rfl) (fun _ _ _ h => h) (by rfl) ?hyk1x3 hH0 ?restk1x3
          case hyk1x3 => ((intro W hSw); obtain ⟨o0, o1, o2, o3⟩ := Lies.cells4 hSw; go_simp; (try with_reducible rfl))
          try simp only [Act.put, List.setIfInBounds_toArray, List.set_cons_zero, List.set_cons_succ]
          refine any_take 5 161 ?vk1x5 rfl rfl (by kernel_rfl) (by kernel_rfl) (by kernel_rfl) (fun _ _ _ h => h) (by rfl) ?hyk1x5 hH0 ?restk1x5
          case hyk1x5 => ((intro W hSw); obtain ⟨o0, o1, o2, o3⟩ := Lies.cells4 hSw; go_simp; (try with_reducible rfl))
          try simp only [Act.put, List.setIfInBounds_toArray, List.set_cons_zero, List.set_cons_succ]
          refine wpAnyH_ready (rs := [4, 6]) (by kernel_rfl) (by simp) ?_
          refine AllReadyH.cons rfl (fun K hK => ?_) (AllReadyH.cons rfl (fun K hK => ?_) AllReadyH.nil)
          · go_simp
            refine hK.out _ _ LP5.out (fun hH1 => ?_)
            clear hK K hH0
            try simp only [Act.put, List.setIfInBounds_toArray, List.set_cons_zero, List.set_cons_succ]
            refine wpAnyH_ready (rs := [6]) (by kernel_rfl) (by simp) ?_
            refine AllReadyH.cons rfl (fun K hK => ?_) AllReadyH.nil
            go_simp
            refine hK.out _ _ (Lies.alloc (w := w5.drew) LP5.out (.cells #[.int .u32 (E : Int), .int .i64 z, .int .u64 (U : Int), .int .i64 m] 25)) (fun hH2 => ?_)
            clear hK K hH1
            try simp only [Act.put, List.setIfInBounds_toArray, List.set_cons_zero, List.set_cons_succ]
            refine wpAnyH_ready (rs := [7]) (by kernel_rfl) (by simp) ?_
            refine AllReadyH.cons rfl (fun K hK => ?_) AllReadyH.nil
            refine stp_append (some 163) _ _ _ (.tmp 160) (.tmp 162) (R + 1) (.slice A n c) n T w5.heap.size ⟨E, z, U, m⟩ rfl rfl (OwnF.alloc (w := w5.drew) OF5.out (.cells #[.int .u32 (E : Int), .int .i64 z, .int .u64 (U : Int), .int .i64 m] 25)) (Lies.made w5.drew 25 #[.int .u32 (E : Int), .int .i64 z, .int .u64 (U : Int), .int .i64 m]) (by omega) (by have := LR5.out.lt; simp; omega) ?_
            intro gg cap w7 ho7 hg7 hb7
            have HG7 : Hid (gg ≠ w1.heap.size) := Lib.hid (by rcases hb7 with q | q; exact HNB.out gg q; have := LP5.out.lt; simp at q; omega)
            clear hb7
            have LR7 := Lib.hid (Lies.grown (Lies.alloc (w := w5.drew) LR5.out (.cells #[.int .u32 (E : Int), .int .i64 z, .int .u64 (U : Int), .int .i64 m] 25)) hg7 (fun q => by have := OF5.out.block R q.symm; omega))
            have LP7 := Lib.hid (Lies.grown (Lies.alloc (w := w5.drew) LP5.out (.cells #[.int .u32 (E : Int), .int .i64 z, .int .u64 (U : Int), .int .i64 m] 25)) hg7 (fun q => HNB.out _ q.symm rfl))
            have BW7 := Lib.hid (OwnF.grows (OwnF.alloc (w := w5.drew) OF5.out (.cells #[.int .u32 (E : Int), .int .i64 z, .int .u64 (U : Int), .int .i64 m] 25)) hg7 (BW5.out.drew.alloc (Nat.le_of_lt (Lies.lt LR5.out)) (.cells #[.int .u32 (E : Int), .int .i64 z, .int .u64 (U : Int), .int .i64 m] 25)) (Nat.le_succ R) (by have := LR5.out.lt; simp; omega))
            have OF7 := Lib.hid ho7
            clear ho7 hg7
            obtain ⟨t0, t1, t2, t3, t4, t5⟩ := LR7.out.cells6
            obtain ⟨v0, v1, v2, v3, v4, v5⟩ := LR7.out.free6
            refine hK.out _ _ LP7.out (fun hH3 => ?_)
            clear hK K hH2
            try simp only [Act.put, List.setIfInBounds_toArray, List.set_cons_zero, List.set_cons_succ]
            refine any_take 8 164 ?vk2x8 rfl rfl (by kernel_rfl) (by kernel_rfl) (by kernel_rfl) (fun _ _ _ h => h) (by rfl) ?hyk2x8 hH3 ?restk2x8
            case hyk2x8 => ((intro W hSw); obtain ⟨o0, o1, o2, o3⟩ := Lies.cells4 hSw; go_simp; (try with_reducible rfl))
            try simp only [Act.put, List.setIfInBounds_toArray, List.set_cons_zero, List.set_cons_succ]
            refine any_take 9 165 ?vk2x9 rfl rfl (by kernel_rfl) (by kernel_rfl) (by kernel_rfl) (fun _ _ _ h => h) (by rfl) ?hyk2x9 hH3 ?restk2x9
            case hyk2x9 => ((intro W hSw); obtain ⟨o0, o1, o2, o3⟩ := Lies.cells4 hSw; go_simp; (try with_reducible rfl))
            try simp only [Act.put, List.setIfInBounds_toArray, List.set_cons_zero, List.set_cons_succ]
            refine wpAnyH_ready (rs := [10]) (by kernel_rfl) (by simp) ?_
            refine AllReadyH.cons rfl (fun K hK => ?_) AllReadyH.nil
            go_simp
            refine hK.out _ _ (LP7.out.other (a := ⟨R, 5, none⟩) (Nat.ne_of_gt hP) _) (fun hH4 => ?_)
            clear hK K hH3 hH4
            try simp only [Act.put, List.setIfInBounds_toArray, List.set_cons_zero, List.set_cons_succ]
            refine wpAnyH_done (by kernel_rfl) ?_ _
            refine NoPanic.normal ?_
            go_wp2_with fail
            go_meet
            exact ⟨rfl, _, LR7.out.put 5 _, LP7.out.other (a := ⟨R, 5, none⟩) (Nat.ne_of_gt hP) _, OF7.out.other (a := ⟨R, 5, none⟩) (Nat.lt_succ_self R) _, BW7.out.setCell (p := ⟨R, 5, none⟩) (Nat.le_refl R) _, fun b hb => by injection hb with hb; rw [← hb]; exact HG7.out⟩
          · go_simp
            refine hK.out _ _ (Lies.alloc (w := w5.drew) LP5.out (.cells #[.int .u32 (E : Int), .int .i64 z, .int .u64 (U : Int), .int .i64 m] 25)) (fun hH1 => ?_)
            clear hK K hH0
            try simp only [Act.put, List.setIfInBounds_toArray, List.set_cons_zero, List.set_cons_succ]
            have e5 := r5a.out
            refine wpAnyH_ready (rs := [4]) (by kernel_rfl) (by simp) ?_
            refine AllReadyH.cons rfl (fun K hK => ?_) AllReadyH.nil
            go_simp
            refine hK.out _ _ (show Lies (w5.alloc (.cells #[.int .u32 (E : Int), .int .i64 z, .int .u64 (U : Int), .int .i64 m] 25)).drew w1.heap.size 25 _ from Lies.alloc (w := w5) LP5.out (.cells #[.int .u32 (E : Int), .int .i64 z, .int .u64 (U : Int), .int .i64 m] 25)) (fun hH2 => ?_)
            clear hK K hH1
            try simp only [Act.put, List.setIfInBounds_toArray, List.set_cons_zero, List.set_cons_succ]
            clear e5
            refine wpAnyH_ready (rs := [7]) (by kernel_rfl) (by simp) ?_
            refine AllReadyH.cons rfl (fun K hK => ?_) AllReadyH.nil
            refine stp_append (some 163) _ _ _ (.tmp 160) (.tmp 162) (R + 1) (.slice A n c) n T w5.heap.size ⟨E, z, U, m⟩ rfl rfl (OwnF.alloc (w := w5.drew) OF5.out (.cells #[.int .u32 (E : Int), .int .i64 z, .int .u64 (U : Int), .int .i64 m] 25)) (Lies.made w5.drew 25 #[.int .u32 (E : Int), .int .i64 z, .int .u64 (U : Int), .int .i64 m]) (by omega) (by have := LR5.out.lt; simp; omega) ?_
            intro gg cap w7 ho7 hg7 hb7
            have HG7 : Hid (gg ≠ w1.heap.size) := Lib.hid (by rcases hb7 with q | q; exact HNB.out gg q; have := LP5.out.lt; simp at q; omega)
            clear hb7
            have LR7 := Lib.hid (Lies.grown (Lies.alloc (w := w5.drew) LR5.out (.cells #[.int .u32 (E : Int), .int .i64 z, .int .u64 (U : Int), .int .i64 m] 25)) hg7 (fun q => by have := OF5.out.block R q.symm; omega))
            have LP7 := Lib.hid (Lies.grown (Lies.alloc (w := w5.drew) LP5.out (.cells #[.int .u32 (E : Int), .int .i64 z, .int .u64 (U : Int), .int .i64 m] 25)) hg7 (fun q => HNB.out _ q.symm rfl))
            have BW7 := Lib.hid (OwnF.grows (OwnF.alloc (w := w5.drew) OF5.out (.cells #[.int .u32 (E : Int), .int .i64 z, .int .u64 (U : Int), .int .i64 m] 25)) hg7 (BW5.out.drew.alloc (Nat.le_of_lt (Lies.lt LR5.out)) (.cells #[.int .u32 (E : Int), .int .i64 z, .int .u64 (U : Int), .int .i64 m] 25)) (Nat.le_succ R) (by have := LR5.out.lt; simp; omega))
            have OF7 := Lib.hid ho7
            clear ho7 hg7
            obtain ⟨t0, t1, t2, t3, t4, t5⟩ := LR7.out.cells6
            obtain ⟨v0, v1, v2, v3, v4, v5⟩ := LR7.out.free6
            refine hK.out _ _ LP7.out (fun hH3 => ?_)
            clear hK K hH2
            try simp only [Act.put, List.setIfInBounds_toArray, List.set_cons_zero, List.set_cons_succ]
            refine any_take 8 164 ?vk3x8 rfl rfl (by kernel_rfl) (by kernel_rfl) (by kernel_rfl) (fun _ _ _ h => h) (by rfl) ?hyk3x8 hH3 ?restk3x8
            case hyk3x8 => ((intro W hSw); obtain ⟨o0, o1, o2, o3⟩ := Lies.cells4 hSw; go_simp; (try with_reducible rfl))
            try simp only [Act.put, List.setIfInBounds_toArray, List.set_cons_zero, List.set_cons_succ]
            refine any_take 9 165 ?vk3x9 rfl rfl (by kernel_rfl) (by kernel_rfl) (by kernel_rfl) (fun _ _ _ h => h) (by rfl) ?hyk3x9 hH3 ?restk3x9
            case hyk3x9 => ((intro W hSw); obtain ⟨o0, o1, o2, o3⟩ := Lies.cells4 hSw; go_simp; (try with_reducible rfl))
            try simp only [Act.put, List.setIfInBounds_toArray, List.set_cons_zero, List.set_cons_succ]
            refine wpAnyH_ready (rs := [10]) (by kernel_rfl) (by simp) ?_
            refine AllReadyH.cons rfl (fun K hK => ?_) AllReadyH.nil
            go_simp
            refine hK.out _ _ (LP7.out.other (a := ⟨R, 5, none⟩) (Nat.ne_of_gt hP) _) (fun hH4 => ?_)
            clear hK K hH3 hH4
            try simp only [Act.put, List.setIfInBounds_toArray, List.set_cons_zero, List.set_cons_succ]
            refine wpAnyH_done (by kernel_rfl) ?_ _
            refine NoPanic.normal ?_
            go_wp2_with fail
            go_meet
            exact ⟨rfl, _, LR7.out.put 5 _, LP7.out.other (a := ⟨R, 5, none⟩) (Nat.ne_of_gt hP) _, OF7.out.other (a := ⟨R, 5, none⟩) (Nat.lt_succ_self R) _, BW7.out.setCell (p := ⟨R, 5, none⟩) (Nat.le_refl R) _, fun b hb => by injection hb with hb; rw [← hb]; exact HG7.out⟩
        case rest =>
          obtain ⟨rfl, v6, hR6, hP6, hO6, hB6, hN6⟩ := hcut
          obtain ⟨n6, hn6⟩ : ∃ n6, n + 1 = n6 := ⟨_, rfl⟩
          obtain ⟨T6, hT6⟩ : ∃ T6 : Nat → Ls, (fun i => if i = n then (⟨E, z, U, m⟩ : Ls) else T i) = T6 := ⟨_, rfl⟩
          rw [hn6, hT6] at hO6
          have HT6 := Lib.hid hT6
          have HN6 := Lib.hid hn6
          have b6 : n6 ≤ 101 := by omega
          have LR6 := Lib.hid hR6
          have LP6 := Lib.hid hP6
          have OF6 := Lib.hid hO6
          have BW6 := Lib.hid hB6
          generalize wc = w6 at *
          have HNB6 := Lib.hid hN6
          clear hR6 hP6 hO6 hB6 hn6 hT6 hN6
          obtain ⟨A1, c1, rfl, hnc1, hcm1, -, hAn1⟩ := OF6.out.slice
          have HA1 := Lib.hid hAn1
          clear hAn1
          obtain ⟨r0, r1, r2, r3, r4, r5⟩ := LR6.out.cells6
          obtain ⟨s0, s1, s2, s3, s4, s5⟩ := LR6.out.free6
          obtain ⟨p0, p1, p2, p3⟩ := LP6.out.cells4
          go_wp2_with fail
          obtain ⟨w7, hw7⟩ : ∃ w7, w7 = ((((w6.setCell ⟨R, 0, none⟩ (.int .u32 (E : Int))).setCell ⟨R, 1, none⟩ (.int .i64 z)).setCell ⟨R, 2, none⟩ (.int .u64 (U : Int))).setCell ⟨R, 3, none⟩ (.int .i64 m)) := ⟨_, rfl⟩
          rw [← hw7]
          have LR7 : Hid (Lies w7 R 48 (rc E z U m N (.slice A1 n6 c1))) := Lib.hid (by rw [hw7]; exact (((LR6.out.put 0 _).put 1 _).put 2 _).put 3 _)
          have LP7 : Hid (Lies w7 w1.heap.size 25 #[.int .u32 (E : Int), .int .i64 z, .int .u64 (U : Int), .int .i64 m]) := Lib.hid (by rw [hw7]; exact LP6.out.put4_other (Nat.ne_of_gt hP) _ _ _ _)
          have OF7 : Hid (OwnF w7 (R + 1) (.slice A1 n6 c1) n6 T6) := Lib.hid (by rw [hw7]; exact OwnF.put4 OF6.out (fun b hb => by have := OF6.out.block b hb; omega) _ _ _ _)
          have BW7 : Hid (Below R w w7) := Lib.hid (by rw [hw7]; exact below_put4 BW6.out (Nat.le_refl R) _ _ _ _)
          have HPB : Hid (∀ b, (Value.slice A1 n6 c1).ownBlock = some b → b ≠ w1.heap.size) := HNB6
          clear hw7 LR6 LP6 OF6 BW6 r0 r1 r2 r3 r4 r5 s0 s1 s2 s3 s4 s5 p0 p1 p2 p3
          go_loopw [13] (UpR R w1.heap.size n6 (rc E z U m N (.slice A1 n6 c1)) #[.int .u32 (E : Int), .int .i64 z, .int .u64 (U : Int), .int .i64 m] (.slice A1 n6 c1) T6 ⟨E, z, U, m⟩ w) (fun i _ => n6 - (intOf i).toNat)
          case atStart => exact ⟨0, by omega, rfl, LR7.out, LP7.out, by rw [upd_zero]; exact OF7.out, BW7.out⟩
          case round =>
            obtain ⟨j, hj, rfl, hLR, hLP, hOF, hBW⟩ := hrel
            have LR8 := Lib.hid hLR
            have LP8 := Lib.hid hLP
            have OF8 := Lib.hid hOF
            have BW8 := Lib.hid hBW
            clear hLR hLP hOF hBW LR7 LP7 OF7 BW7
            obtain ⟨r0, r1, r2, r3, r4, r5⟩ := LR8.out.cells6
            obtain ⟨p0, p1, p2, p3⟩ := LP8.out.cells4
            by_cases hlt : j < n6
            · obtain ⟨b, off, rfl, -, hbR, -⟩ := HA1.out (by omega)
              have hbP : b ≠ w1.heap.size := HPB.out b rfl
              have hi : (j : Int) < ((n6 : Nat) : Int) := by omega
              have hat := OF8.out.at j hlt
              rw [upd_at] at hat
              obtain ⟨⟨t0, t1, t2, t3⟩, v0, v1, v2, v3⟩ := hat
              by_cases hh : (T6 j).e = E
              · have HH := Lib.hid hh
                have z1 : (((T6 j).e : Int) == (E : Int)) = true := by simp; omega
                clear hh
                generalize (T6 j).h = h1 at *
                generalize (T6 j).u = u1 at *
                generalize (T6 j).m = m1 at *
                obtain ⟨e1, he1⟩ : ∃ e1, (T6 j).e = e1 := ⟨_, rfl⟩
                rw [he1] at t0 z1
                have HE1 := Lib.hid he1
                clear he1
                go_wp2_with fail
                go_quiet (fail)
                go_wp2_with fail
                go_region
                go_wp2
                go_roundw
                case rel => exact ⟨j + 1, by omega, by go_num, Lies.ste_other (LR8.out.drewN _) (by omega) _ _ _ _, Lies.ste_other (LP8.out.drewN _) (Ne.symm hbP) _ _ _ _, by rw [upd_yes _ _ _ HH.out]; exact OwnF.set (OF8.out.drewN _) j hlt ⟨E, z, U, m⟩, below_ste (below_drewN BW8.out _) (by omega) _ _ _ _⟩
                case measure => simp [intOf]; omega
              · have HH := Lib.hid hh
                have z1 : (((T6 j).e : Int) == (E : Int)) = false := by simp; omega
                clear hh
                generalize (T6 j).h = h1 at *
                generalize (T6 j).u = u1 at *
                generalize (T6 j).m = m1 at *
                obtain ⟨e1, he1⟩ : ∃ e1, (T6 j).e = e1 := ⟨_, rfl⟩
                rw [he1] at t0 z1
                have HE1 := Lib.hid he1
                clear he1
                go_wp2_with fail
                go_quiet (fail)
                go_wp2
                go_roundw
                case rel => exact ⟨j + 1, by omega, by go_num, LR8.out.drewN _, LP8.out.drewN _, by rw [upd_no _ _ _ HH.out]; exact OF8.out, below_drewN BW8.out _⟩
                case measure => simp [intOf]; omega
            · obtain hjn : j = n6 := by omega
              subst hjn
              clear hlt hj
              go_wp2
              go_ret
              exact ⟨rfl, E, z, U, m, N, _, _, _, by rw [HN.out, ← HT6.out, ← HN6.out]; exact (HI.out.grant bq (a := ⟨E, z, U, m⟩) HEE.out HVB.out (by have := HUU.out; have := HN.out; show U ≤ _; omega) (by have := HFR.out; rw [HN.out] at this; exact this)), LR8.out, OF8.out, BW8.out⟩
      · have hzs := HZ.out
        obtain ⟨rfl, rfl, rfl, rfl⟩ := gr_bad hS hcd
        have C : ∀ W, Hid (Calls Try.prog 17 #[.agg #[.int .u32 (e : Int), .int .i64 h, .int .u64 (u : Int), .int .i64 m], .int .u64 (N : Int), .int .i64 z, .int .u64 (s : Int), .int .u64 (g : Int)] W fun x w' => x = .returned (.tuple #[.agg #[.int .u32 0, .int .i64 0, .int .u64 0, .int .i64 0], .int .i64 cd]) ∧ Below W.heap.size W w') := fun W => Lib.hid (grant_any e h u m N z s g W 0 0 0 0 cd hS (by omega) (by omega) (by omega) (by omega))
        have c1 : (cd != 0) = true := by simpa using hcd
        clear hS hzs hcd
        refine wp_region_noPanic ?_
        refine wp_region_held_drew (S := fun W => Lies W R 48 (rc e h u m N (.slice A n c)) ∧ Lies W w.heap.size 52 (ac 1 wt wh ln md)) (by kernel_rfl) ⟨LR2.out, LX2.out⟩ (fun hH0 => ?_)
        refine any_take 0 74 ?vk5x0 rfl rfl (by kernel_rfl) (by kernel_rfl) (by kernel_rfl) (fun _ _ _ h => h) (by rfl) ?hyk5x0 hH0 ?restk5x0
        case hyk5x0 => ((intro W hSw); obtain ⟨o0, o1, o2, o3, o4, o5⟩ := Lies.cells6 hSw.1; obtain ⟨v0, v1, v2, v3, v4⟩ := Lies.cells5 hSw.2; go_simp; (try with_reducible rfl))
        try simp only [Act.put, List.setIfInBounds_toArray, List.set_cons_zero, List.set_cons_succ]
        refine any_take 1 75 ?vk5x1 rfl rfl (by kernel_rfl) (by kernel_rfl) (by kernel_rfl) (fun _ _ _ h => h) (by rfl) ?hyk5x1 hH0 ?restk5x1
        case hyk5x1 => ((intro W hSw); obtain ⟨o0, o1, o2, o3, o4, o5⟩ := Lies.cells6 hSw.1; obtain ⟨v0, v1, v2, v3, v4⟩ := Lies.cells5 hSw.2; go_simp; (try with_reducible rfl))
        try simp only [Act.put, List.setIfInBounds_toArray, List.set_cons_zero, List.set_cons_succ]
        refine any_take 2 76 ?vk5x2 rfl rfl (by kernel_rfl) (by kernel_rfl) (by kernel_rfl) (fun _ _ _ h => h) (by rfl) ?hyk5x2 hH0 ?restk5x2
        case hyk5x2 => ((intro W hSw); obtain ⟨o0, o1, o2, o3, o4, o5⟩ := Lies.cells6 hSw.1; obtain ⟨v0, v1, v2, v3, v4⟩ := Lies.cells5 hSw.2; go_simp; (try with_reducible rfl))
        try simp only [Act.put, List.setIfInBounds_toArray, List.set_cons_zero, List.set_cons_succ]
        refine any_take 3 77 ?vk5x3 rfl rfl (by kernel_rfl) (by kernel_rfl) (by kernel_rfl) (fun _ _ _ h => h) (by rfl) ?hyk5x3 hH0 ?restk5x3
        case hyk5x3 => ((intro W hSw); obtain ⟨o0, o1, o2, o3, o4, o5⟩ := Lies.cells6 hSw.1; obtain ⟨v0, v1, v2, v3, v4⟩ := Lies.cells5 hSw.2; go_simp; (try with_reducible rfl))
        try simp only [Act.put, List.setIfInBounds_toArray, List.set_cons_zero, List.set_cons_succ]
        refine any_take 4 78 ?vk5x4 rfl rfl (by kernel_rfl) (by kernel_rfl) (by kernel_rfl) (fun _ _ _ h => h) (by rfl) ?hyk5x4 hH0 ?restk5x4
        case hyk5x4 => ((intro W hSw); obtain ⟨o0, o1, o2, o3, o4, o5⟩ := Lies.cells6 hSw.1; obtain ⟨v0, v1, v2, v3, v4⟩ := Lies.cells5 hSw.2; go_simp; (try with_reducible rfl))
        try simp only [Act.put, List.setIfInBounds_toArray, List.set_cons_zero, List.set_cons_succ]
        refine any_take 5 79 ?vk5x5 rfl rfl (by kernel_rfl) (by kernel_rfl) (by kernel_rfl) (fun _ _ _ h => h) (by rfl) ?hyk5x5 hH0 ?restk5x5
        case hyk5x5 => ((intro W hSw); obtain ⟨o0, o1, o2, o3, o4, o5⟩ := Lies.cells6 hSw.1; obtain ⟨v0, v1, v2, v3, v4⟩ := Lies.cells5 hSw.2; go_simp; (try with_reducible rfl))
        try simp only [Act.put, List.setIfInBounds_toArray, List.set_cons_zero, List.set_cons_succ]
        refine any_take 6 80 ?vk5x6 rfl rfl (by kernel_rfl) (by kernel_rfl) (by kernel_rfl) (fun _ _ _ h => h) (by rfl) ?hyk5x6 hH0 ?restk5x6
        case hyk5x6 => ((intro W hSw); obtain ⟨o0, o1, o2, o3, o4, o5⟩ := Lies.cells6 hSw.1; obtain ⟨v0, v1, v2, v3, v4⟩ := Lies.cells5 hSw.2; go_simp; (try with_reducible rfl))
        try simp only [Act.put, List.setIfInBounds_toArray, List.set_cons_zero, List.set_cons_succ]
        refine any_take 7 81 ?vk5x7 rfl rfl (by kernel_rfl) (by kernel_rfl) (by kernel_rfl) (fun _ _ _ h => h) (by rfl) ?hyk5x7 hH0 ?restk5x7
        case hyk5x7 => ((intro W hSw); obtain ⟨o0, o1, o2, o3, o4, o5⟩ := Lies.cells6 hSw.1; obtain ⟨v0, v1, v2, v3, v4⟩ := Lies.cells5 hSw.2; go_simp; (try with_reducible rfl))
        try simp only [Act.put, List.setIfInBounds_toArray, List.set_cons_zero, List.set_cons_succ]
        refine any_take 8 82 ?vk5x8 rfl rfl (by kernel_rfl) (by kernel_rfl) (by kernel_rfl) (fun _ _ _ h => h) (by rfl) ?hyk5x8 hH0 ?restk5x8
        case hyk5x8 => ((intro W hSw); obtain ⟨o0, o1, o2, o3, o4, o5⟩ := Lies.cells6 hSw.1; obtain ⟨v0, v1, v2, v3, v4⟩ := Lies.cells5 hSw.2; go_simp; (try with_reducible rfl))
        try simp only [Act.put, List.setIfInBounds_toArray, List.set_cons_zero, List.set_cons_succ]
        refine any_take 9 83 ?vk5x9 rfl rfl (by kernel_rfl) (by kernel_rfl) (by kernel_rfl) (fun _ _ _ h => h) (by rfl) ?hyk5x9 hH0 ?restk5x9
        case hyk5x9 => ((intro W hSw); obtain ⟨o0, o1, o2, o3, o4, o5⟩ := Lies.cells6 hSw.1; obtain ⟨v0, v1, v2, v3, v4⟩ := Lies.cells5 hSw.2; go_simp; (try with_reducible rfl))
        try simp only [Act.put, List.setIfInBounds_toArray, List.set_cons_zero, List.set_cons_succ]
        refine any_take 10 84 ?vk5x10 rfl rfl (by kernel_rfl) (by kernel_rfl) (by kernel_rfl) (fun _ _ _ h => h) (by rfl) ?hyk5x10 hH0 ?restk5x10
        case hyk5x10 => ((intro W hSw); obtain ⟨o0, o1, o2, o3, o4, o5⟩ := Lies.cells6 hSw.1; obtain ⟨v0, v1, v2, v3, v4⟩ := Lies.cells5 hSw.2; go_simp; (try with_reducible rfl))
        try simp only [Act.put, List.setIfInBounds_toArray, List.set_cons_zero, List.set_cons_succ]
        refine wpAnyH_ready (rs := [11]) (by kernel_rfl) (by simp) ?_
        refine AllReadyH.cons rfl (fun K hK => ?_) AllReadyH.nil
        go_simp
        go_at_call 17
        with_reducible refine (C _).out.mono ?_
        rintro y w3 ⟨rfl, hb⟩
        have LR3 := Lib.hid (Lies.below (w := (w1.alloc (.cells #[.int .u32 (e : Int), .int .i64 h, .int .u64 (u : Int), .int .i64 m] 25)).drew) LR2.out hb (Lies.lt LR2.out))
        have LX3 := Lib.hid (Lies.below (w := (w1.alloc (.cells #[.int .u32 (e : Int), .int .i64 h, .int .u64 (u : Int), .int .i64 m] 25)).drew) LX2.out hb (Lies.lt LX2.out))
        have LP3 := Lib.hid (Lies.below (w := (w1.alloc (.cells #[.int .u32 (e : Int), .int .i64 h, .int .u64 (u : Int), .int .i64 m] 25)).drew) LP2.out hb (Lies.lt LP2.out))
        have OF3 := Lib.hid (OwnF.belowT (w := (w1.alloc (.cells #[.int .u32 (e : Int), .int .i64 h, .int .u64 (u : Int), .int .i64 m] 25)).drew) OF2.out hb)
        have BW3 := Lib.hid (BW2.out.drew.trans (hb.mono (Nat.le_of_lt (Lies.lt LR2.out))))
        obtain ⟨a0, a1, a2, a3⟩ := LP3.out.cells4
        obtain ⟨g0, g1, g2, g3⟩ := LP3.out.free4
        refine hK.out _ _ (⟨LR3.out, LX3.out⟩) (fun hH1 => ?_)
        clear hK K hH0 hb r0 r1 r2 r3 r4 r5 x0 x1 x2 x3 x4 r6 r7 r8 r9 r10 r11 y0 y1 y2 y3 y4 p0 p1 p2 p3 f0 f1 f2 f3
        try simp only [Act.put, List.setIfInBounds_toArray, List.set_cons_zero, List.set_cons_succ]
        refine any_take 12 73 ?vk5x12 rfl rfl (by kernel_rfl) (by kernel_rfl) (by kernel_rfl) (fun _ _ _ h => h) (by rfl) ?hyk5x12 hH1 ?restk5x12
        case hyk5x12 => ((intro W hSw); obtain ⟨o0, o1, o2, o3, o4, o5⟩ := Lies.cells6 hSw.1; obtain ⟨v0, v1, v2, v3, v4⟩ := Lies.cells5 hSw.2; go_simp; (try with_reducible rfl))
        try simp only [Act.put, List.setIfInBounds_toArray, List.set_cons_zero, List.set_cons_succ]
        refine any_take 13 86 ?vk5x13 rfl rfl (by kernel_rfl) (by kernel_rfl) (by kernel_rfl) (fun _ _ _ h => h) (by rfl) ?hyk5x13 hH1 ?restk5x13
        case hyk5x13 => ((intro W hSw); obtain ⟨o0, o1, o2, o3, o4, o5⟩ := Lies.cells6 hSw.1; obtain ⟨v0, v1, v2, v3, v4⟩ := Lies.cells5 hSw.2; go_simp; (try with_reducible rfl))
        try simp only [Act.put, List.setIfInBounds_toArray, List.set_cons_zero, List.set_cons_succ]
        refine any_take 14 87 ?vk5x14 rfl rfl (by kernel_rfl) (by kernel_rfl) (by kernel_rfl) (fun _ _ _ h => h) (by rfl) ?hyk5x14 hH1 ?restk5x14
        case hyk5x14 => ((intro W hSw); obtain ⟨o0, o1, o2, o3, o4, o5⟩ := Lies.cells6 hSw.1; obtain ⟨v0, v1, v2, v3, v4⟩ := Lies.cells5 hSw.2; go_simp; (try with_reducible rfl))
        try simp only [Act.put, List.setIfInBounds_toArray, List.set_cons_zero, List.set_cons_succ]
        refine wpAnyH_ready (rs := [15]) (by kernel_rfl) (by simp) ?_
        refine AllReadyH.cons rfl (fun K hK => ?_) AllReadyH.nil
        go_simp
        have hPX : w.heap.size ≠ w1.heap.size := Nat.ne_of_lt HXP.out
        refine hK.out _ _ ⟨LR3.out.put4_other (Nat.ne_of_lt hP) _ _ _ _, LX3.out.put4_other hPX _ _ _ _⟩ (fun hH2 => ?_)
        clear hK K hH1
        try simp only [Act.put, List.setIfInBounds_toArray, List.set_cons_zero, List.set_cons_succ]
        refine any_take 16 12 ?vk5x16 rfl rfl (by kernel_rfl) (by kernel_rfl) (by kernel_rfl) (fun _ _ _ h => h) (by rfl) ?hyk5x16 hH2 ?restk5x16
        case hyk5x16 => ((intro W hSw); obtain ⟨o0, o1, o2, o3, o4, o5⟩ := Lies.cells6 hSw.1; obtain ⟨v0, v1, v2, v3, v4⟩ := Lies.cells5 hSw.2; go_simp; (try with_reducible rfl))
        try simp only [Act.put, List.setIfInBounds_toArray, List.set_cons_zero, List.set_cons_succ]
        clear hH2
        refine wpAnyH_done (by kernel_rfl) ?_ _
        refine NoPanic.normal ?_
        obtain ⟨w4, hw4⟩ : ∃ w4, w4 = ((((w3.setCell ⟨w1.heap.size, 0, none⟩ (.int .u32 0)).setCell ⟨w1.heap.size, 1, none⟩ (.int .i64 0)).setCell ⟨w1.heap.size, 2, none⟩ (.int .u64 0)).setCell ⟨w1.heap.size, 3, none⟩ (.int .i64 0)) := ⟨_, rfl⟩
        rw [← hw4]
        have LR4 : Hid (Lies w4 R 48 (rc e h u m N (.slice A n c))) := Lib.hid (by rw [hw4]; exact LR3.out.put4_other (Nat.ne_of_lt hP) _ _ _ _)
        have LX4 : Hid (Lies w4 w.heap.size 52 (ac 1 wt wh ln md)) := Lib.hid (by rw [hw4]; exact LX3.out.put4_other hPX _ _ _ _)
        have LP4 : Hid (Lies w4 w1.heap.size 25 #[.int .u32 0, .int .i64 0, .int .u64 0, .int .i64 0]) := Lib.hid (by rw [hw4]; exact LP3.out.put4 _ _ _ _)
        have OF4 : Hid (OwnF w4 (R + 1) (.slice A n c) n T) := Lib.hid (by rw [hw4]; exact OwnF.put4 OF3.out HNB.out _ _ _ _)
        have BW4 : Hid (Below R w w4) := Lib.hid (by rw [hw4]; exact below_put4 BW3.out (Nat.le_of_lt hP) _ _ _ _)
        clear hw4 a0 a1 a2 a3 g0 g1 g2 g3 LR3 LX3 LP3 OF3 BW3 LR2 LX2 LP2 OF2 BW2
        obtain ⟨r0, r1, r2, r3, r4, r5⟩ := LR4.out.cells6
        obtain ⟨s0, s1, s2, s3, s4, s5⟩ := LR4.out.free6
        obtain ⟨x0, x1, x2, x3, x4⟩ := LX4.out.cells5
        obtain ⟨p0, p1, p2, p3⟩ := LP4.out.cells4
        go_wp2_with fail
        go_ret
        exact ⟨rfl, e, h, u, m, N, n, T, _, by rw [HN.out]; exact HI.out.wait bq, LR4.out, OF4.out, BW4.out⟩

end Go.Proofs.Ytbcelelmckkaoaa
