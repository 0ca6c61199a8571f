/-
  The contract of asks, other kinds.
-/
import Derived.Test.YtbcelelmckkaoaaAskB
namespace Go.Proofs.Ytbcelelmckkaoaa
open Go.RowKit
set_option linter.unusedVariables false

set_option maxRecDepth 100000 in
set_option maxHeartbeats 4000000 in
theorem asks_N (k : Nat) (e : Nat) (h : Int) (u : Nat) (m : Int) (now n : Nat) (T : Nat → Ls) (v : Value) (R : Nat) (kind : Int) (wt : Nat) (wh : Int) (ln : Nat) (md : Int) (g : Nat) (w : World)
    (hk : k < 100) (hI : Inv k ⟨e, h, u, m⟩ now n T) (hL : Lies w R 48 (rc e h u m now v)) (hO : OwnF w (R + 1) v n T) (hwt : wt < 65536) (hln : ln < 65536) (hg : g < 30) (hkd : kind < 0) :
    Calls Try.prog 24 #[.pointer (some ⟨R, 0, none⟩), .agg (ac kind wt wh ln md), .int .u64 (g : Int)] w (AskPost k R w) := by
  obtain ⟨A, c, rfl, hnc, hcm, hAc, hAn⟩ := hO.slice
  have hR := hL.lt
  have htime := hI.time
  have hep : e = n := hI.ep
  have hlen : n ≤ k := hI.len
  have htil : u ≤ 39 * k + 60 := hI.til
  have b1 : n ≤ 100 := by omega
  have b2 : e ≤ 100 := by omega
  have b3 : u ≤ 4000 := by omega
  have hL1 := hL.alloc (.cells (ac kind wt wh ln md) 52)
  obtain ⟨r0, r1, r2, r3, r4, r5⟩ := hL1.cells6
  obtain ⟨s0, s1, s2, s3, s4, s5⟩ := hL1.free6
  have HI := Lib.hid hI
  have HA := Lib.hid hAn
  have HL0 := Lib.hid hL
  have HO0 := Lib.hid hO
  have HEP := Lib.hid hep
  clear hI hL hL1 hO hAn hAc hep
  go_enter Try.func24, Try.ntmps24
  go_upto_region 1 with fail
  go_region
  generalize hq : (wt : Int) % 40 = q0
  obtain ⟨q, rfl, bq⟩ : ∃ q : Nat, q0 = (q : Int) ∧ q < 40 := ⟨q0.toNat, by omega, by omega⟩
  clear hq
  generalize hN : (now : Int) + (q : Int) = N0
  obtain ⟨N, rfl, bN⟩ : ∃ N : Nat, N0 = (N : Int) ∧ N = now + q := ⟨now + q, by omega, rfl⟩
  clear hN
  obtain ⟨w1, hw1⟩ : ∃ w1, w1 = ((w.setCell ⟨R, 4, none⟩ (.int .u64 (N : Int))).alloc (.cells (ac kind wt wh ln md) 52)).drew := ⟨_, rfl⟩
  rw [← hw1]
  have b0 : N ≤ 4000 := by omega
  have LR : Hid (Lies w1 R 48 (rc e h u m N (.slice A n c))) := Lib.hid (by rw [hw1]; exact (HL0.out.put 4 _).alloc _)
  have LX : Hid (Lies w1 w.heap.size 52 (ac kind wt wh ln md)) := Lib.hid (by rw [hw1]; have := Lies.made (w.setCell ⟨R, 4, none⟩ (.int .u64 (N : Int))) 52 (ac kind wt wh ln md); rwa [show (w.setCell ⟨R, 4, none⟩ (.int .u64 (N : Int))).heap.size = w.heap.size from by simp] at this)
  have OF : Hid (OwnF w1 (R + 1) (.slice A n c) n T) := Lib.hid (by rw [hw1]; exact (HO0.out.other (a := ⟨R, 4, none⟩) (Nat.lt_succ_self R) _).alloc _)
  have BW : Hid (Below R w w1) := Lib.hid (by rw [hw1]; exact (((Below.refl R w).setCell (p := ⟨R, 4, none⟩) (Nat.le_refl R) _).alloc (by simp; omega) _).drew)
  have HN := Lib.hid bN
  clear hw1 r0 r1 r2 r3 r4 r5 s0 s1 s2 s3 s4 s5 HL0 HO0 bN
  obtain ⟨r0, r1, r2, r3, r4, r5⟩ := LR.out.cells6
  obtain ⟨x0, x1, x2, x3, x4⟩ := LX.out.cells5
  go_wp2_with fail
  generalize hz : wrap64 (1 + wrap64 ((IntKind.u64.wrap wh).tmod 2)) = z
  have hzz : z = 1 ∨ z = 2 := by rw [← hz]; exact one_of_two wh
  have HZ := Lib.hid hzz
  clear hz hzz
  generalize hl0 : (1 + (ln : Int) % 60) = l0
  obtain ⟨s, rfl, bs1, bs2⟩ : ∃ s : Nat, l0 = (s : Int) ∧ 1 ≤ s ∧ s ≤ 60 := ⟨l0.toNat, by omega, by omega, by omega⟩
  clear hl0
  go_loop [9, 10] (OwnR n) (fun _ i => n - (intOf i).toNat)
  case atStart => exact ⟨0, 0, by omega, by omega, rfl, rfl⟩
  case round =>
    obtain ⟨j, own, hj, hown, rfl, rfl⟩ := hrel
    by_cases hlt : j < n
    · obtain ⟨b, off, rfl, -, hbR, hbw⟩ := HA.out (by omega)
      obtain ⟨⟨t0, t1, t2, t3⟩, -⟩ := OF.out.at j hlt
      have he1 : (T j).e = j + 1 := (HI.out.each j hlt).1
      have he2 : (T j).e < 4294967296 := by omega
      have hi : (j : Int) < (n : Int) := by omega
      clear he1
      generalize (T j).e = e1 at *
      generalize (T j).h = h1 at *
      generalize (T j).u = u1 at *
      generalize (T j).m = m1 at *
      by_cases hh : h1 = z
      · have z1 : (h1 == z) = true := by simpa using hh
        clear hh
        go_wp2
        go_round
        case rel => exact ⟨j + 1, e1, by omega, he2, by go_num, rfl⟩
        case measure => simp [intOf]; omega
      · have z1 : (h1 == z) = false := by simpa using hh
        clear hh
        go_wp2
        go_round
        case rel => exact ⟨j + 1, own, by omega, hown, by go_num, rfl⟩
        case measure => simp [intOf]; omega
    · obtain rfl : n = j := by omega
      clear hlt hj
      have k0 : (kind == 0) = false := by simp; omega
      have k1 : (kind == 1) = false := by simp; omega
      have k2 : (kind == 2) = false := by simp; omega
      have k3 : (kind == 3) = false := by simp; omega
      have k4 : (kind == 4) = false := by simp; omega
      have l1 : decide (kind ≤ 1) = true := decide_eq_true (by omega)
      have l2 : decide (0 ≤ kind) = false := decide_eq_false (by omega)
      clear hkd
      have HVB : Hid (vB e h u m) := Lib.hid HI.out.val
      have HUB : Hid (u ≤ u ∨ u ≤ now + q + 60) := Lib.hid (.inl (Nat.le_refl _))
      have d1 : ((e : Int) != (e : Int)) = false := by simp
      have d2 : (h != h) = false := by simp
      have hP : R < w1.heap.size := LR.out.lt
      have LR2 := Lib.hid (LR.out.alloc (.cells #[.int .u32 (e : Int), .int .i64 h, .int .u64 (u : Int), .int .i64 m] 25))
      have LX2 := Lib.hid (LX.out.alloc (.cells #[.int .u32 (e : Int), .int .i64 h, .int .u64 (u : Int), .int .i64 m] 25))
      have OF2 := Lib.hid (OF.out.alloc (.cells #[.int .u32 (e : Int), .int .i64 h, .int .u64 (u : Int), .int .i64 m] 25))
      have LP2 := Lib.hid (Lies.made w1 25 #[.int .u32 (e : Int), .int .i64 h, .int .u64 (u : Int), .int .i64 m])
      have BW2 := Lib.hid (BW.out.alloc (Nat.le_of_lt hP) (.cells #[.int .u32 (e : Int), .int .i64 h, .int .u64 (u : Int), .int .i64 m] 25))
      have LXk := LX
      have OFk := OF
      clear LR LX OF BW
      obtain ⟨r6, r7, r8, r9, r10, r11⟩ := LR2.out.cells6
      obtain ⟨y0, y1, y2, y3, y4⟩ := LX2.out.cells5
      obtain ⟨p0, p1, p2, p3⟩ := LP2.out.cells4
      obtain ⟨f0, f1, f2, f3⟩ := LP2.out.free4
      have HXP : Hid (w.heap.size < w1.heap.size) := Lib.hid (by have := (show Lies w1 w.heap.size 52 _ from LXk.out).lt; exact this)
      have HNB : Hid (∀ b, (Value.slice A n c).ownBlock = some b → b ≠ w1.heap.size) := Lib.hid (fun b hb => Nat.ne_of_lt (OFk.out.blockLt b hb))
      clear LXk OFk
      go_wp2_with fail
      go_quiet (fail)
      obtain ⟨v6, hv6⟩ : ∃ v6, Value.slice A n c = v6 := ⟨_, rfl⟩
      obtain ⟨n6, hn6⟩ : ∃ n6, n = n6 := ⟨_, rfl⟩
      obtain ⟨T6, hT6⟩ : ∃ T6 : Nat → Ls, T = T6 := ⟨_, rfl⟩
      obtain ⟨w6, hw6⟩ : ∃ w6, w6 = (w1.alloc (.cells #[.int .u32 (e : Int), .int .i64 h, .int .u64 (u : Int), .int .i64 m] 25)).drewN nq := ⟨_, rfl⟩
      rw [← hw6]
      have LR6 : Hid (Lies w6 R 48 (rc e h u m N v6)) := Lib.hid (by rw [hw6, ← hv6]; exact Lies.drewN LR2.out _)
      have LP6 := Lib.hid (Lies.drewN LP2.out nq)
      rw [← hw6] at LP6
      have OF6 : Hid (OwnF w6 (R + 1) v6 n6 T6) := Lib.hid (by rw [hw6, ← hv6, ← hn6, ← hT6]; exact OwnF.drewN OF2.out _)
      have BW6 : Hid (Below R w w6) := Lib.hid (by rw [hw6]; exact below_drewN BW2.out _)
      have HNB6 : Hid (∀ b, v6.ownBlock = some b → b ≠ w1.heap.size) := Lib.hid (by rw [← hv6]; exact HNB.out)
      have HT6 := Lib.hid hT6
      have HN6 := Lib.hid hn6
      have b6 : n6 ≤ 101 := by omega
      clear hw6 hv6 hn6 hT6
      clear LR2 LX2 LP2 OF2 BW2 r0 r1 r2 r3 r4 r5 x0 x1 x2 x3 x4 r6 r7 r8 r9 r10 r11 y0 y1 y2 y3 y4 p0 p1 p2 p3 f0 f1 f2 f3
      obtain ⟨A1, c1, rfl, hnc1, hcm1, -, hAn1⟩ := OF6.out.slice
      have HA1 := Lib.hid hAn1
      clear hAn1
      obtain ⟨r0, r1, r2, r3, r4, r5⟩ := LR6.out.cells6
      obtain ⟨s0, s1, s2, s3, s4, s5⟩ := LR6.out.free6
      obtain ⟨p0, p1, p2, p3⟩ := LP6.out.cells4
      go_wp2_with fail
      obtain ⟨w7, hw7⟩ : ∃ w7, w7 = ((((w6.setCell ⟨R, 0, none⟩ (.int .u32 (e : Int))).setCell ⟨R, 1, none⟩ (.int .i64 h)).setCell ⟨R, 2, none⟩ (.int .u64 (u : Int))).setCell ⟨R, 3, none⟩ (.int .i64 m)) := ⟨_, rfl⟩
      rw [← hw7]
      have LR7 : Hid (Lies w7 R 48 (rc e h u m N (.slice A1 n6 c1))) := Lib.hid (by rw [hw7]; exact (((LR6.out.put 0 _).put 1 _).put 2 _).put 3 _)
      have LP7 : Hid (Lies w7 w1.heap.size 25 #[.int .u32 (e : Int), .int .i64 h, .int .u64 (u : Int), .int .i64 m]) := Lib.hid (by rw [hw7]; exact LP6.out.put4_other (Nat.ne_of_gt hP) _ _ _ _)
      have OF7 : Hid (OwnF w7 (R + 1) (.slice A1 n6 c1) n6 T6) := Lib.hid (by rw [hw7]; exact OwnF.put4 OF6.out (fun b hb => by have := OF6.out.block b hb; omega) _ _ _ _)
      have BW7 : Hid (Below R w w7) := Lib.hid (by rw [hw7]; exact below_put4 BW6.out (Nat.le_refl R) _ _ _ _)
      have HPB : Hid (∀ b, (Value.slice A1 n6 c1).ownBlock = some b → b ≠ w1.heap.size) := HNB6
      clear hw7 LR6 LP6 OF6 BW6 r0 r1 r2 r3 r4 r5 s0 s1 s2 s3 s4 s5 p0 p1 p2 p3
      go_loopw [13] (UpR R w1.heap.size n6 (rc e h u m N (.slice A1 n6 c1)) #[.int .u32 (e : Int), .int .i64 h, .int .u64 (u : Int), .int .i64 m] (.slice A1 n6 c1) T6 ⟨e, h, u, m⟩ w) (fun i _ => n6 - (intOf i).toNat)
      case atStart => exact ⟨0, by omega, rfl, LR7.out, LP7.out, by rw [upd_zero]; exact OF7.out, BW7.out⟩
      case round =>
        obtain ⟨j, hj, rfl, hLR, hLP, hOF, hBW⟩ := hrel
        have LR8 := Lib.hid hLR
        have LP8 := Lib.hid hLP
        have OF8 := Lib.hid hOF
        have BW8 := Lib.hid hBW
        clear hLR hLP hOF hBW LR7 LP7 OF7 BW7
        obtain ⟨r0, r1, r2, r3, r4, r5⟩ := LR8.out.cells6
        obtain ⟨p0, p1, p2, p3⟩ := LP8.out.cells4
        by_cases hlt : j < n6
        · obtain ⟨b, off, rfl, -, hbR, -⟩ := HA1.out (by omega)
          have hbP : b ≠ w1.heap.size := HPB.out b rfl
          have hi : (j : Int) < ((n6 : Nat) : Int) := by omega
          have hat := OF8.out.at j hlt
          rw [upd_at] at hat
          obtain ⟨⟨t0, t1, t2, t3⟩, v0, v1, v2, v3⟩ := hat
          by_cases hh : (T6 j).e = e
          · have HH := Lib.hid hh
            have z1 : (((T6 j).e : Int) == (e : Int)) = true := by simp; omega
            clear hh
            generalize (T6 j).h = h1 at *
            generalize (T6 j).u = u1 at *
            generalize (T6 j).m = m1 at *
            obtain ⟨e1, he1⟩ : ∃ e1, (T6 j).e = e1 := ⟨_, rfl⟩
            rw [he1] at t0 z1
            have HE1 := Lib.hid he1
            clear he1
            go_wp2_with fail
            go_quiet (fail)
            go_wp2_with fail
            go_region
            go_wp2
            go_roundw
            case rel => exact ⟨j + 1, by omega, by go_num, Lies.ste_other (LR8.out.drewN _) (by omega) _ _ _ _, Lies.ste_other (LP8.out.drewN _) (Ne.symm hbP) _ _ _ _, by rw [upd_yes _ _ _ HH.out]; exact OwnF.set (OF8.out.drewN _) j hlt ⟨e, h, u, m⟩, below_ste (below_drewN BW8.out _) (by omega) _ _ _ _⟩
            case measure => simp [intOf]; omega
          · have HH := Lib.hid hh
            have z1 : (((T6 j).e : Int) == (e : Int)) = false := by simp; omega
            clear hh
            generalize (T6 j).h = h1 at *
            generalize (T6 j).u = u1 at *
            generalize (T6 j).m = m1 at *
            obtain ⟨e1, he1⟩ : ∃ e1, (T6 j).e = e1 := ⟨_, rfl⟩
            rw [he1] at t0 z1
            have HE1 := Lib.hid he1
            clear he1
            go_wp2_with fail
            go_quiet (fail)
            go_wp2
            go_roundw
            case rel => exact ⟨j + 1, by omega, by go_num, LR8.out.drewN _, LP8.out.drewN _, by rw [upd_no _ _ _ HH.out]; exact OF8.out, below_drewN BW8.out _⟩
            case measure => simp [intOf]; omega
        · obtain hjn : j = n6 := by omega
          subst hjn
          clear hlt hj
          go_wp2
          go_ret
          exact ⟨rfl, e, h, u, m, N, _, _, _, by rw [HN.out, ← HT6.out, ← HN6.out]; exact (HI.out.keep bq (a := ⟨e, h, u, m⟩) rfl HVB.out HUB.out), LR8.out, OF8.out, BW8.out⟩

end Go.Proofs.Ytbcelelmckkaoaa
