/-
  The walk of LeaseAlone, out of the contracts.
-/
import Derived.Test.YtbcelelmckkaoaaAsks
import Derived.Test.YtbcelelmckkaoaaKnown
import Derived.Test.YtbcelelmckkaoaaInA
namespace Go.Proofs.Ytbcelelmckkaoaa
open Go.RowKit
set_option linter.unusedVariables false

/-- The loop over the asks. -/
def AlR (w : World) (R n : Nat) (i : Value) (wr : World) : Prop :=
  ∃ k : Nat, k ≤ n ∧ k ≤ 100 ∧ i = .int .i64 (k : Int) ∧ (∃ (e : Nat) (h : Int) (u : Nat) (m : Int) (now nn : Nat) (T : Nat → Ls) (v : Value), Inv k ⟨e, h, u, m⟩ now nn T ∧ Lies wr R 48 (rc e h u m now v) ∧ OwnF wr (R + 1) v nn T) ∧ Below w.heap.size w wr
/-- The loop over the ticks. -/
def TkR (w : World) (R : Nat) (cs : Array Value) (v : Value) (nn : Nat) (T : Nat → Ls) (i : Value) (wr : World) : Prop :=
  ∃ q : Nat, q ≤ 2 ∧ i = .int .i64 (q : Int) ∧ Lies wr R 48 cs ∧ OwnF wr (R + 1) v nn T ∧ Below w.heap.size w wr
/-- The loop over the leases. -/
def HdR (w : World) (R : Nat) (cs : Array Value) (v : Value) (nn : Nat) (T : Nat → Ls) (c i : Value) (wr : World) : Prop :=
  ∃ j cc : Nat, j ≤ nn ∧ i = .int .i64 (j : Int) ∧ c = .int .i64 (cc : Int) ∧ (cc = 0 ∨ (cc = 1 ∧ j = nn)) ∧ Lies wr R 48 cs ∧ OwnF wr (R + 1) v nn T ∧ Below w.heap.size w wr

set_option maxRecDepth 100000 in
set_option maxHeartbeats 4000000 in
theorem leaseAlone_walk (a : Option Addr) (n cap : Nat) (g later : Nat) (w : World) (hIn : InAsks w a n cap) (hg : g < 18446744073709551616) (hlater : later < 18446744073709551616) :
    Calls Try.prog 6 #[.slice a n cap, .int .u64 (g : Int), .int .u64 (later : Int)] w fun x w' => x = .returned (.bool true) ∧ Below w.heap.size w w' := by
  have H0 := Lib.hid (Below.refl w.heap.size w)
  have HIN := Lib.hid hIn.2.2
  have KN := fun W => Lib.hid (known_any W)
  have hcap := hIn.1
  have hmax := hIn.2.1
  clear hIn
  go_enter Try.func6, Try.ntmps6
  go_wp2_with fail
  with_reducible refine (empty_any _).mono ?_
  rintro x w0 ⟨rfl, hb⟩
  have B0 := Lib.hid (H0.out.trans (hb.mono H0.out.size))
  clear hb
  go_wp2_with fail
  obtain ⟨R, hR⟩ : ∃ R, w0.heap.size = R := ⟨_, rfl⟩
  have LR1 := Lib.hid (Lies.made w0 48 #[.int .u32 0, .int .i64 0, .int .u64 0, .int .i64 1, .int .u64 0, .slice none 0 0])
  have BW1 := Lib.hid (B0.out.alloc B0.out.size (.cells #[.int .u32 0, .int .i64 0, .int .u64 0, .int .i64 1, .int .u64 0, .slice none 0 0] 48))
  have hRw : w.heap.size ≤ R := by rw [← hR]; exact B0.out.size
  rw [hR] at LR1 ⊢
  clear hR
  go_loopw [8] (AlR w R n) (fun i _ => n - (intOf i).toNat)
  case atStart => exact ⟨0, by omega, by omega, rfl, ⟨0, 0, 0, 1, 0, 0, fun _ => ⟨0, 0, 0, 0⟩, .slice none 0 0, Inv.start _, LR1.out, OwnF.nil _ _ _⟩, BW1.out⟩
  case round =>
    obtain ⟨k, hk, hk100, rfl, ⟨e0, h0, u0, m0, now0, nn0, T0, v0, hI0, hL0, hO0⟩, hB0⟩ := hrel
    clear LR1 BW1
    have HI0 := Lib.hid hI0
    have HL0 := Lib.hid hL0
    have HO0 := Lib.hid hO0
    have HB0 := Lib.hid hB0
    clear hI0 hL0 hO0 hB0
    by_cases hlt : k < n
    · have hi : (k : Int) < (n : Int) := by omega
      by_cases hl1 : k < 100
      · have hi1 : (k : Int) < 100 := by omega
        obtain ⟨b, off, rfl, hat⟩ := HIN.out (by omega)
        obtain ⟨kind, wt, wh, ln, md, ⟨hwt, hln⟩, a0, a1, a2, a3, a4⟩ := hat k hlt
        rw [← HB0.out.cell (block_lt_of_cell a0)] at a0
        rw [← HB0.out.cell (block_lt_of_cell a1)] at a1
        rw [← HB0.out.cell (block_lt_of_cell a2)] at a2
        rw [← HB0.out.cell (block_lt_of_cell a3)] at a3
        rw [← HB0.out.cell (block_lt_of_cell a4)] at a4
        have C : Hid (Calls Try.prog 24 #[.pointer (some ⟨R, 0, none⟩), .agg (ac kind wt wh ln md), .int .u64 ((g : Int) % 30)] wr (AskPost k R wr)) := Lib.hid (by
          have := asks_any k e0 h0 u0 m0 now0 nn0 T0 v0 R kind wt wh ln md (g % 30) wr hl1 HI0.out HL0.out HO0.out hwt hln (Nat.mod_lt _ (by omega))
          rw [show ((g % 30 : Nat) : Int) = (g : Int) % 30 from by omega] at this
          exact this)
        clear hat
        go_wp2_with fail
        with_reducible refine C.out.mono ?_
        rintro x w2 ⟨rfl, e, h, u, m, now, nn, T, v, hI, hL, hO, hB⟩
        obtain ⟨A, c, rfl, hnc, hcm, -, hAn⟩ := hO.slice
        have HI := Lib.hid hI
        have LR3 := Lib.hid hL
        have OF3 := Lib.hid hO
        have HA := Lib.hid hAn
        have BW3 := Lib.hid (HB0.out.trans (hB.mono hRw))
        have btime : now ≤ 4000 := by have := hI.time; omega
        have bnn : nn ≤ 101 := by have := hI.len; omega
        clear hI hL hO hAn hB C HI0 HL0 HO0 HB0 a0 a1 a2 a3 a4
        go_wp2_with fail
        go_loopw [10] (TkR w R (rc e h u m now (.slice A nn c)) (.slice A nn c) nn T) (fun i _ => 2 - (intOf i).toNat)
        case atStart => exact ⟨0, by omega, rfl, LR3.out, OF3.out, BW3.out⟩
        case round =>
          obtain ⟨q, hq, rfl, hLR, hOF, hBW⟩ := hrel
          have LR4 := Lib.hid hLR
          have OF4 := Lib.hid hOF
          have BW4 := Lib.hid hBW
          clear hLR hOF hBW LR3 OF3 BW3
          obtain ⟨r0, r1, r2, r3, r4, r5⟩ := LR4.out.cells6
          by_cases hq2 : q < 2
          · rcases (show q = 0 ∨ q = 1 by omega) with rfl | rfl
            · go_wp2_with fail
              have HT : Hid (now ≤ now) := Lib.hid (Nat.le_refl _)
              clear r0 r1 r2 r3 r4 r5
              go_loopw [12, 13] (HdR w R (rc e h u m now (.slice A nn c)) (.slice A nn c) nn T) (fun _ i _ => nn - (intOf i).toNat)
              case atStart => exact ⟨0, 0, by omega, rfl, rfl, .inl rfl, LR4.out, OF4.out, BW4.out⟩
              case round =>
                obtain ⟨j, cc, hj, rfl, rfl, hcc, hLR, hOF, hBW⟩ := hrel
                have LR5 := Lib.hid hLR
                have OF5 := Lib.hid hOF
                have BW5 := Lib.hid hBW
                have HCC := Lib.hid hcc
                have bcc : cc ≤ 1 := by omega
                clear hLR hOF hBW hcc
                obtain ⟨r0, r1, r2, r3, r4, r5⟩ := LR5.out.cells6
                by_cases hlt : j < nn
                · obtain ⟨b2, off2, rfl, -, hbR, -⟩ := HA.out (by omega)
                  have hcz : cc = 0 := by have := HCC.out; omega
                  subst hcz
                  have hi : (j : Int) < (nn : Int) := by omega
                  have hat := (OF5.out.at j hlt).1
                  have CH := fun W => Lib.hid (holds_any (T j).e (T j).h (T j).u (T j).m (T j).h now W)
                  have HNO : Hid (j + 1 < nn → hoS (T j).e (T j).h (T j).u (T j).m (T j).h now = false) := Lib.hid (fun hq => HI.out.none hq HT.out _)
                  have HAT : Hid (∀ W, OwnF W (R + 1) (.slice (some ⟨b2, off2, none⟩) nn c) nn T → (W.cell? ⟨b2, off2 + j * 4, none⟩ = some (.int .u32 ((T j).e : Int)) ∧ W.cell? ⟨b2, off2 + j * 4 + 1, none⟩ = some (.int .i64 (T j).h) ∧ W.cell? ⟨b2, off2 + j * 4 + 2, none⟩ = some (.int .u64 ((T j).u : Int)) ∧ W.cell? ⟨b2, off2 + j * 4 + 3, none⟩ = some (.int .i64 (T j).m))) := Lib.hid (fun W hW => (hW.at j hlt).1)
                  generalize hoS (T j).e (T j).h (T j).u (T j).m (T j).h now = o at *
                  generalize (T j).e = e1 at *
                  generalize (T j).h = h1 at *
                  generalize (T j).u = u1 at *
                  generalize (T j).m = m1 at *
                  go_wp2_with fail
                  refine wp_region_noPanic ?_
                  refine wp_region_held_drew (S := fun W => Lies W R 48 (rc e h u m now (.slice (some ⟨b2, off2, none⟩) nn c)) ∧ (W.cell? ⟨b2, off2 + j * 4, none⟩ = some (.int .u32 (e1 : Int)) ∧ W.cell? ⟨b2, off2 + j * 4 + 1, none⟩ = some (.int .i64 h1) ∧ W.cell? ⟨b2, off2 + j * 4 + 2, none⟩ = some (.int .u64 (u1 : Int)) ∧ W.cell? ⟨b2, off2 + j * 4 + 3, none⟩ = some (.int .i64 m1))) (by kernel_rfl) ⟨LR5.out, hat⟩ (fun hH0 => ?_)
                  refine any_take 0 60 ?vz00 rfl rfl (by kernel_rfl) (by kernel_rfl) (by kernel_rfl) (fun _ _ _ h => h) (by rfl) ?hyz00 hH0 ?restz00
                  case hyz00 => ((intro W hSw); obtain ⟨o0, o1, o2, o3, o4, o5⟩ := Lies.cells6 hSw.1; obtain ⟨g0, g1, g2, g3⟩ := hSw.2; go_simp; (try with_reducible rfl))
                  try simp only [Act.put, List.setIfInBounds_toArray, List.set_cons_zero, List.set_cons_succ]
                  refine any_take 1 61 ?vz01 rfl rfl (by kernel_rfl) (by kernel_rfl) (by kernel_rfl) (fun _ _ _ h => h) (by rfl) ?hyz01 hH0 ?restz01
                  case hyz01 => ((intro W hSw); obtain ⟨o0, o1, o2, o3, o4, o5⟩ := Lies.cells6 hSw.1; obtain ⟨g0, g1, g2, g3⟩ := hSw.2; go_simp; (try with_reducible rfl))
                  try simp only [Act.put, List.setIfInBounds_toArray, List.set_cons_zero, List.set_cons_succ]
                  refine any_take 2 62 ?vz02 rfl rfl (by kernel_rfl) (by kernel_rfl) (by kernel_rfl) (fun _ _ _ h => h) (by rfl) ?hyz02 hH0 ?restz02
                  case hyz02 => ((intro W hSw); obtain ⟨o0, o1, o2, o3, o4, o5⟩ := Lies.cells6 hSw.1; obtain ⟨g0, g1, g2, g3⟩ := hSw.2; go_simp; (try with_reducible rfl))
                  try simp only [Act.put, List.setIfInBounds_toArray, List.set_cons_zero, List.set_cons_succ]
                  refine any_take 3 63 ?vz03 rfl rfl (by kernel_rfl) (by kernel_rfl) (by kernel_rfl) (fun _ _ _ h => h) (by rfl) ?hyz03 hH0 ?restz03
                  case hyz03 => ((intro W hSw); obtain ⟨o0, o1, o2, o3, o4, o5⟩ := Lies.cells6 hSw.1; obtain ⟨g0, g1, g2, g3⟩ := hSw.2; go_simp; (try with_reducible rfl))
                  try simp only [Act.put, List.setIfInBounds_toArray, List.set_cons_zero, List.set_cons_succ]
                  refine any_take 4 64 ?vz04 rfl rfl (by kernel_rfl) (by kernel_rfl) (by kernel_rfl) (fun _ _ _ h => h) (by rfl) ?hyz04 hH0 ?restz04
                  case hyz04 => ((intro W hSw); obtain ⟨o0, o1, o2, o3, o4, o5⟩ := Lies.cells6 hSw.1; obtain ⟨g0, g1, g2, g3⟩ := hSw.2; go_simp; (try with_reducible rfl))
                  try simp only [Act.put, List.setIfInBounds_toArray, List.set_cons_zero, List.set_cons_succ]
                  refine any_take 5 65 ?vz05 rfl rfl (by kernel_rfl) (by kernel_rfl) (by kernel_rfl) (fun _ _ _ h => h) (by rfl) ?hyz05 hH0 ?restz05
                  case hyz05 => ((intro W hSw); obtain ⟨o0, o1, o2, o3, o4, o5⟩ := Lies.cells6 hSw.1; obtain ⟨g0, g1, g2, g3⟩ := hSw.2; go_simp; (try with_reducible rfl))
                  try simp only [Act.put, List.setIfInBounds_toArray, List.set_cons_zero, List.set_cons_succ]
                  refine any_take 6 66 ?vz06 rfl rfl (by kernel_rfl) (by kernel_rfl) (by kernel_rfl) (fun _ _ _ h => h) (by rfl) ?hyz06 hH0 ?restz06
                  case hyz06 => ((intro W hSw); obtain ⟨o0, o1, o2, o3, o4, o5⟩ := Lies.cells6 hSw.1; obtain ⟨g0, g1, g2, g3⟩ := hSw.2; go_simp; (try with_reducible rfl))
                  try simp only [Act.put, List.setIfInBounds_toArray, List.set_cons_zero, List.set_cons_succ]
                  refine any_take 7 67 ?vz07 rfl rfl (by kernel_rfl) (by kernel_rfl) (by kernel_rfl) (fun _ _ _ h => h) (by rfl) ?hyz07 hH0 ?restz07
                  case hyz07 => ((intro W hSw); obtain ⟨o0, o1, o2, o3, o4, o5⟩ := Lies.cells6 hSw.1; obtain ⟨g0, g1, g2, g3⟩ := hSw.2; go_simp; (try with_reducible rfl))
                  try simp only [Act.put, List.setIfInBounds_toArray, List.set_cons_zero, List.set_cons_succ]
                  refine any_take 8 68 ?vz08 rfl rfl (by kernel_rfl) (by kernel_rfl) (by kernel_rfl) (fun _ _ _ h => h) (by rfl) ?hyz08 hH0 ?restz08
                  case hyz08 => ((intro W hSw); obtain ⟨o0, o1, o2, o3, o4, o5⟩ := Lies.cells6 hSw.1; obtain ⟨g0, g1, g2, g3⟩ := hSw.2; go_simp; (try with_reducible rfl))
                  try simp only [Act.put, List.setIfInBounds_toArray, List.set_cons_zero, List.set_cons_succ]
                  refine any_take 9 69 ?vz09 rfl rfl (by kernel_rfl) (by kernel_rfl) (by kernel_rfl) (fun _ _ _ h => h) (by rfl) ?hyz09 hH0 ?restz09
                  case hyz09 => ((intro W hSw); obtain ⟨o0, o1, o2, o3, o4, o5⟩ := Lies.cells6 hSw.1; obtain ⟨g0, g1, g2, g3⟩ := hSw.2; go_simp; (try with_reducible rfl))
                  try simp only [Act.put, List.setIfInBounds_toArray, List.set_cons_zero, List.set_cons_succ]
                  refine any_take 10 70 ?vz010 rfl rfl (by kernel_rfl) (by kernel_rfl) (by kernel_rfl) (fun _ _ _ h => h) (by rfl) ?hyz010 hH0 ?restz010
                  case hyz010 => ((intro W hSw); obtain ⟨o0, o1, o2, o3, o4, o5⟩ := Lies.cells6 hSw.1; obtain ⟨g0, g1, g2, g3⟩ := hSw.2; go_simp; (try with_reducible rfl))
                  try simp only [Act.put, List.setIfInBounds_toArray, List.set_cons_zero, List.set_cons_succ]
                  refine any_take 11 71 ?vz011 rfl rfl (by kernel_rfl) (by kernel_rfl) (by kernel_rfl) (fun _ _ _ h => h) (by rfl) ?hyz011 hH0 ?restz011
                  case hyz011 => ((intro W hSw); obtain ⟨o0, o1, o2, o3, o4, o5⟩ := Lies.cells6 hSw.1; obtain ⟨g0, g1, g2, g3⟩ := hSw.2; go_simp; (try with_reducible rfl))
                  try simp only [Act.put, List.setIfInBounds_toArray, List.set_cons_zero, List.set_cons_succ]
                  refine any_take 12 72 ?vz012 rfl rfl (by kernel_rfl) (by kernel_rfl) (by kernel_rfl) (fun _ _ _ h => h) (by rfl) ?hyz012 hH0 ?restz012
                  case hyz012 => ((intro W hSw); obtain ⟨o0, o1, o2, o3, o4, o5⟩ := Lies.cells6 hSw.1; obtain ⟨g0, g1, g2, g3⟩ := hSw.2; go_simp; (try with_reducible rfl))
                  try simp only [Act.put, List.setIfInBounds_toArray, List.set_cons_zero, List.set_cons_succ]
                  refine any_take 13 73 ?vz013 rfl rfl (by kernel_rfl) (by kernel_rfl) (by kernel_rfl) (fun _ _ _ h => h) (by rfl) ?hyz013 hH0 ?restz013
                  case hyz013 => ((intro W hSw); obtain ⟨o0, o1, o2, o3, o4, o5⟩ := Lies.cells6 hSw.1; obtain ⟨g0, g1, g2, g3⟩ := hSw.2; go_simp; (try with_reducible rfl))
                  try simp only [Act.put, List.setIfInBounds_toArray, List.set_cons_zero, List.set_cons_succ]
                  refine any_take 14 74 ?vz014 rfl rfl (by kernel_rfl) (by kernel_rfl) (by kernel_rfl) (fun _ _ _ h => h) (by rfl) ?hyz014 hH0 ?restz014
                  case hyz014 => ((intro W hSw); obtain ⟨o0, o1, o2, o3, o4, o5⟩ := Lies.cells6 hSw.1; obtain ⟨g0, g1, g2, g3⟩ := hSw.2; go_simp; (try with_reducible rfl))
                  try simp only [Act.put, List.setIfInBounds_toArray, List.set_cons_zero, List.set_cons_succ]
                  refine any_take 15 75 ?vz015 rfl rfl (by kernel_rfl) (by kernel_rfl) (by kernel_rfl) (fun _ _ _ h => h) (by rfl) ?hyz015 hH0 ?restz015
                  case hyz015 => ((intro W hSw); obtain ⟨o0, o1, o2, o3, o4, o5⟩ := Lies.cells6 hSw.1; obtain ⟨g0, g1, g2, g3⟩ := hSw.2; go_simp; (try with_reducible rfl))
                  try simp only [Act.put, List.setIfInBounds_toArray, List.set_cons_zero, List.set_cons_succ]
                  refine wpAnyH_ready (rs := [16]) (by kernel_rfl) (by simp) ?_
                  refine AllReadyH.cons rfl (fun K hK => ?_) AllReadyH.nil
                  go_simp
                  go_at_call 14
                  with_reducible refine (CH _).out.mono ?_
                  rintro y w6 ⟨rfl, hb⟩
                  have LR6 := Lib.hid (Lies.below (w := wr.drew) LR5.out hb (Lies.lt LR5.out))
                  have OF6 := Lib.hid (OwnF.belowT (w := wr.drew) OF5.out hb)
                  have BW6 := Lib.hid (BW5.out.drew.trans (hb.mono (BW5.out.size)))
                  refine hK.out _ _ (⟨LR6.out, HAT.out _ OF6.out⟩) (fun hH1 => ?_)
                  clear hK K hH0 hH1 hb hat r0 r1 r2 r3 r4 r5 HAT CH
                  try simp only [Act.put, List.setIfInBounds_toArray, List.set_cons_zero, List.set_cons_succ]
                  refine wpAnyH_done (by kernel_rfl) ?_ _
                  refine NoPanic.normal ?_
                  cases o with
                  | true =>
                    go_wp2
                    go_roundw
                    case rel =>
                      (repeat apply Exists.intro)
                      refine ⟨?_, rfl⟩
                      exact ⟨j + 1, 1, by omega, by go_num, rfl, .inr ⟨rfl, by refine Classical.byContradiction fun hq => ?_; have := HNO.out (by omega); cases this⟩, LR6.out, OF6.out, BW6.out⟩
                    case measure => simp [intOf]; omega
                  | false =>
                    go_wp2
                    go_roundw
                    case rel => exact ⟨j + 1, 0, by omega, by go_num, rfl, .inl rfl, LR6.out, OF6.out, BW6.out⟩
                    case measure => simp [intOf]; omega
                · have c1 : decide ((1 : Int) < (cc : Int)) = false := decide_eq_false (by omega)
                  have c2 : decide (1 < cc) = false := decide_eq_false (by omega)
                  have hi : ¬ ((j : Int) < (nn : Int)) := by omega
                  go_wp2
                  go_roundw
                  case rel => exact ⟨0 + 1, by omega, by go_num, LR5.out, OF5.out, BW5.out⟩
                  case measure => simp [intOf] <;> omega
            · go_wp2_with fail
              generalize htt : (now : Int) + (later : Int) % 70 = t0
              obtain ⟨t, rfl, ht⟩ : ∃ t : Nat, t0 = (t : Int) ∧ now ≤ t := ⟨t0.toNat, by omega, by omega⟩
              clear htt
              have HT := Lib.hid ht
              clear ht
              clear r0 r1 r2 r3 r4 r5
              go_loopw [12, 13] (HdR w R (rc e h u m now (.slice A nn c)) (.slice A nn c) nn T) (fun _ i _ => nn - (intOf i).toNat)
              case atStart => exact ⟨0, 0, by omega, rfl, rfl, .inl rfl, LR4.out, OF4.out, BW4.out⟩
              case round =>
                obtain ⟨j, cc, hj, rfl, rfl, hcc, hLR, hOF, hBW⟩ := hrel
                have LR5 := Lib.hid hLR
                have OF5 := Lib.hid hOF
                have BW5 := Lib.hid hBW
                have HCC := Lib.hid hcc
                have bcc : cc ≤ 1 := by omega
                clear hLR hOF hBW hcc
                obtain ⟨r0, r1, r2, r3, r4, r5⟩ := LR5.out.cells6
                by_cases hlt : j < nn
                · obtain ⟨b2, off2, rfl, -, hbR, -⟩ := HA.out (by omega)
                  have hcz : cc = 0 := by have := HCC.out; omega
                  subst hcz
                  have hi : (j : Int) < (nn : Int) := by omega
                  have hat := (OF5.out.at j hlt).1
                  have CH := fun W => Lib.hid (holds_any (T j).e (T j).h (T j).u (T j).m (T j).h t W)
                  have HNO : Hid (j + 1 < nn → hoS (T j).e (T j).h (T j).u (T j).m (T j).h t = false) := Lib.hid (fun hq => HI.out.none hq HT.out _)
                  have HAT : Hid (∀ W, OwnF W (R + 1) (.slice (some ⟨b2, off2, none⟩) nn c) nn T → (W.cell? ⟨b2, off2 + j * 4, none⟩ = some (.int .u32 ((T j).e : Int)) ∧ W.cell? ⟨b2, off2 + j * 4 + 1, none⟩ = some (.int .i64 (T j).h) ∧ W.cell? ⟨b2, off2 + j * 4 + 2, none⟩ = some (.int .u64 ((T j).u : Int)) ∧ W.cell? ⟨b2, off2 + j * 4 + 3, none⟩ = some (.int .i64 (T j).m))) := Lib.hid (fun W hW => (hW.at j hlt).1)
                  generalize hoS (T j).e (T j).h (T j).u (T j).m (T j).h t = o at *
                  generalize (T j).e = e1 at *
                  generalize (T j).h = h1 at *
                  generalize (T j).u = u1 at *
                  generalize (T j).m = m1 at *
                  go_wp2_with fail
                  refine wp_region_noPanic ?_
                  refine wp_region_held_drew (S := fun W => Lies W R 48 (rc e h u m now (.slice (some ⟨b2, off2, none⟩) nn c)) ∧ (W.cell? ⟨b2, off2 + j * 4, none⟩ = some (.int .u32 (e1 : Int)) ∧ W.cell? ⟨b2, off2 + j * 4 + 1, none⟩ = some (.int .i64 h1) ∧ W.cell? ⟨b2, off2 + j * 4 + 2, none⟩ = some (.int .u64 (u1 : Int)) ∧ W.cell? ⟨b2, off2 + j * 4 + 3, none⟩ = some (.int .i64 m1))) (by kernel_rfl) ⟨LR5.out, hat⟩ (fun hH0 => ?_)
                  refine any_take 0 60 ?vz10 rfl rfl (by kernel_rfl) (by kernel_rfl) (by kernel_rfl) (fun _ _ _ h => h) (by rfl) ?hyz10 hH0 ?restz10
                  case hyz10 => ((intro W hSw); obtain ⟨o0, o1, o2, o3, o4, o5⟩ := Lies.cells6 hSw.1; obtain ⟨g0, g1, g2, g3⟩ := hSw.2; go_simp; (try with_reducible rfl))
                  try simp only [Act.put, List.setIfInBounds_toArray, List.set_cons_zero, List.set_cons_succ]
                  refine any_take 1 61 ?vz11 rfl rfl (by kernel_rfl) (by kernel_rfl) (by kernel_rfl) (fun _ _ _ h => h) (by rfl) ?hyz11 hH0 ?restz11
                  case hyz11 => ((intro W hSw); obtain ⟨o0, o1, o2, o3, o4, o5⟩ := Lies.cells6 hSw.1; obtain ⟨g0, g1, g2, g3⟩ := hSw.2; go_simp; (try with_reducible rfl))
                  try simp only [Act.put, List.setIfInBounds_toArray, List.set_cons_zero, List.set_cons_succ]
                  refine any_take 2 62 ?vz12 rfl rfl (by kernel_rfl) (by kernel_rfl) (by kernel_rfl) (fun _ _ _ h => h) (by rfl) ?hyz12 hH0 ?restz12
                  case hyz12 => ((intro W hSw); obtain ⟨o0, o1, o2, o3, o4, o5⟩ := Lies.cells6 hSw.1; obtain ⟨g0, g1, g2, g3⟩ := hSw.2; go_simp; (try with_reducible rfl))
                  try simp only [Act.put, List.setIfInBounds_toArray, List.set_cons_zero, List.set_cons_succ]
                  refine any_take 3 63 ?vz13 rfl rfl (by kernel_rfl) (by kernel_rfl) (by kernel_rfl) (fun _ _ _ h => h) (by rfl) ?hyz13 hH0 ?restz13
                  case hyz13 => ((intro W hSw); obtain ⟨o0, o1, o2, o3, o4, o5⟩ := Lies.cells6 hSw.1; obtain ⟨g0, g1, g2, g3⟩ := hSw.2; go_simp; (try with_reducible rfl))
                  try simp only [Act.put, List.setIfInBounds_toArray, List.set_cons_zero, List.set_cons_succ]
                  refine any_take 4 64 ?vz14 rfl rfl (by kernel_rfl) (by kernel_rfl) (by kernel_rfl) (fun _ _ _ h => h) (by rfl) ?hyz14 hH0 ?restz14
                  case hyz14 => ((intro W hSw); obtain ⟨o0, o1, o2, o3, o4, o5⟩ := Lies.cells6 hSw.1; obtain ⟨g0, g1, g2, g3⟩ := hSw.2; go_simp; (try with_reducible rfl))
                  try simp only [Act.put, List.setIfInBounds_toArray, List.set_cons_zero, List.set_cons_succ]
                  refine any_take 5 65 ?vz15 rfl rfl (by kernel_rfl) (by kernel_rfl) (by kernel_rfl) (fun _ _ _ h => h) (by rfl) ?hyz15 hH0 ?restz15
                  case hyz15 => ((intro W hSw); obtain ⟨o0, o1, o2, o3, o4, o5⟩ := Lies.cells6 hSw.1; obtain ⟨g0, g1, g2, g3⟩ := hSw.2; go_simp; (try with_reducible rfl))
                  try simp only [Act.put, List.setIfInBounds_toArray, List.set_cons_zero, List.set_cons_succ]
                  refine any_take 6 66 ?vz16 rfl rfl (by kernel_rfl) (by kernel_rfl) (by kernel_rfl) (fun _ _ _ h => h) (by rfl) ?hyz16 hH0 ?restz16
                  case hyz16 => ((intro W hSw); obtain ⟨o0, o1, o2, o3, o4, o5⟩ := Lies.cells6 hSw.1; obtain ⟨g0, g1, g2, g3⟩ := hSw.2; go_simp; (try with_reducible rfl))
                  try simp only [Act.put, List.setIfInBounds_toArray, List.set_cons_zero, List.set_cons_succ]
                  refine any_take 7 67 ?vz17 rfl rfl (by kernel_rfl) (by kernel_rfl) (by kernel_rfl) (fun _ _ _ h => h) (by rfl) ?hyz17 hH0 ?restz17
                  case hyz17 => ((intro W hSw); obtain ⟨o0, o1, o2, o3, o4, o5⟩ := Lies.cells6 hSw.1; obtain ⟨g0, g1, g2, g3⟩ := hSw.2; go_simp; (try with_reducible rfl))
                  try simp only [Act.put, List.setIfInBounds_toArray, List.set_cons_zero, List.set_cons_succ]
                  refine any_take 8 68 ?vz18 rfl rfl (by kernel_rfl) (by kernel_rfl) (by kernel_rfl) (fun _ _ _ h => h) (by rfl) ?hyz18 hH0 ?restz18
                  case hyz18 => ((intro W hSw); obtain ⟨o0, o1, o2, o3, o4, o5⟩ := Lies.cells6 hSw.1; obtain ⟨g0, g1, g2, g3⟩ := hSw.2; go_simp; (try with_reducible rfl))
                  try simp only [Act.put, List.setIfInBounds_toArray, List.set_cons_zero, List.set_cons_succ]
                  refine any_take 9 69 ?vz19 rfl rfl (by kernel_rfl) (by kernel_rfl) (by kernel_rfl) (fun _ _ _ h => h) (by rfl) ?hyz19 hH0 ?restz19
                  case hyz19 => ((intro W hSw); obtain ⟨o0, o1, o2, o3, o4, o5⟩ := Lies.cells6 hSw.1; obtain ⟨g0, g1, g2, g3⟩ := hSw.2; go_simp; (try with_reducible rfl))
                  try simp only [Act.put, List.setIfInBounds_toArray, List.set_cons_zero, List.set_cons_succ]
                  refine any_take 10 70 ?vz110 rfl rfl (by kernel_rfl) (by kernel_rfl) (by kernel_rfl) (fun _ _ _ h => h) (by rfl) ?hyz110 hH0 ?restz110
                  case hyz110 => ((intro W hSw); obtain ⟨o0, o1, o2, o3, o4, o5⟩ := Lies.cells6 hSw.1; obtain ⟨g0, g1, g2, g3⟩ := hSw.2; go_simp; (try with_reducible rfl))
                  try simp only [Act.put, List.setIfInBounds_toArray, List.set_cons_zero, List.set_cons_succ]
                  refine any_take 11 71 ?vz111 rfl rfl (by kernel_rfl) (by kernel_rfl) (by kernel_rfl) (fun _ _ _ h => h) (by rfl) ?hyz111 hH0 ?restz111
                  case hyz111 => ((intro W hSw); obtain ⟨o0, o1, o2, o3, o4, o5⟩ := Lies.cells6 hSw.1; obtain ⟨g0, g1, g2, g3⟩ := hSw.2; go_simp; (try with_reducible rfl))
                  try simp only [Act.put, List.setIfInBounds_toArray, List.set_cons_zero, List.set_cons_succ]
                  refine any_take 12 72 ?vz112 rfl rfl (by kernel_rfl) (by kernel_rfl) (by kernel_rfl) (fun _ _ _ h => h) (by rfl) ?hyz112 hH0 ?restz112
                  case hyz112 => ((intro W hSw); obtain ⟨o0, o1, o2, o3, o4, o5⟩ := Lies.cells6 hSw.1; obtain ⟨g0, g1, g2, g3⟩ := hSw.2; go_simp; (try with_reducible rfl))
                  try simp only [Act.put, List.setIfInBounds_toArray, List.set_cons_zero, List.set_cons_succ]
                  refine any_take 13 73 ?vz113 rfl rfl (by kernel_rfl) (by kernel_rfl) (by kernel_rfl) (fun _ _ _ h => h) (by rfl) ?hyz113 hH0 ?restz113
                  case hyz113 => ((intro W hSw); obtain ⟨o0, o1, o2, o3, o4, o5⟩ := Lies.cells6 hSw.1; obtain ⟨g0, g1, g2, g3⟩ := hSw.2; go_simp; (try with_reducible rfl))
                  try simp only [Act.put, List.setIfInBounds_toArray, List.set_cons_zero, List.set_cons_succ]
                  refine any_take 14 74 ?vz114 rfl rfl (by kernel_rfl) (by kernel_rfl) (by kernel_rfl) (fun _ _ _ h => h) (by rfl) ?hyz114 hH0 ?restz114
                  case hyz114 => ((intro W hSw); obtain ⟨o0, o1, o2, o3, o4, o5⟩ := Lies.cells6 hSw.1; obtain ⟨g0, g1, g2, g3⟩ := hSw.2; go_simp; (try with_reducible rfl))
                  try simp only [Act.put, List.setIfInBounds_toArray, List.set_cons_zero, List.set_cons_succ]
                  refine any_take 15 75 ?vz115 rfl rfl (by kernel_rfl) (by kernel_rfl) (by kernel_rfl) (fun _ _ _ h => h) (by rfl) ?hyz115 hH0 ?restz115
                  case hyz115 => ((intro W hSw); obtain ⟨o0, o1, o2, o3, o4, o5⟩ := Lies.cells6 hSw.1; obtain ⟨g0, g1, g2, g3⟩ := hSw.2; go_simp; (try with_reducible rfl))
                  try simp only [Act.put, List.setIfInBounds_toArray, List.set_cons_zero, List.set_cons_succ]
                  refine wpAnyH_ready (rs := [16]) (by kernel_rfl) (by simp) ?_
                  refine AllReadyH.cons rfl (fun K hK => ?_) AllReadyH.nil
                  go_simp
                  go_at_call 14
                  with_reducible refine (CH _).out.mono ?_
                  rintro y w6 ⟨rfl, hb⟩
                  have LR6 := Lib.hid (Lies.below (w := wr.drew) LR5.out hb (Lies.lt LR5.out))
                  have OF6 := Lib.hid (OwnF.belowT (w := wr.drew) OF5.out hb)
                  have BW6 := Lib.hid (BW5.out.drew.trans (hb.mono (BW5.out.size)))
                  refine hK.out _ _ (⟨LR6.out, HAT.out _ OF6.out⟩) (fun hH1 => ?_)
                  clear hK K hH0 hH1 hb hat r0 r1 r2 r3 r4 r5 HAT CH
                  try simp only [Act.put, List.setIfInBounds_toArray, List.set_cons_zero, List.set_cons_succ]
                  refine wpAnyH_done (by kernel_rfl) ?_ _
                  refine NoPanic.normal ?_
                  cases o with
                  | true =>
                    go_wp2
                    go_roundw
                    case rel =>
                      (repeat apply Exists.intro)
                      refine ⟨?_, rfl⟩
                      exact ⟨j + 1, 1, by omega, by go_num, rfl, .inr ⟨rfl, by refine Classical.byContradiction fun hq => ?_; have := HNO.out (by omega); cases this⟩, LR6.out, OF6.out, BW6.out⟩
                    case measure => simp [intOf]; omega
                  | false =>
                    go_wp2
                    go_roundw
                    case rel => exact ⟨j + 1, 0, by omega, by go_num, rfl, .inl rfl, LR6.out, OF6.out, BW6.out⟩
                    case measure => simp [intOf]; omega
                · have c1 : decide ((1 : Int) < (cc : Int)) = false := decide_eq_false (by omega)
                  have c2 : decide (1 < cc) = false := decide_eq_false (by omega)
                  have hi : ¬ ((j : Int) < (nn : Int)) := by omega
                  go_wp2
                  go_roundw
                  case rel => exact ⟨1 + 1, by omega, by go_num, LR5.out, OF5.out, BW5.out⟩
                  case measure => simp [intOf] <;> omega
          · have hq3 : ¬ ((q : Int) < 2) := by omega
            go_wp2
            go_roundw
            case rel => exact ⟨k + 1, by omega, by omega, by go_num, ⟨e, h, u, m, now, nn, T, _, HI.out, LR4.out, OF4.out⟩, BW4.out⟩
            case measure => simp [intOf]; omega
      · have hi1 : ¬ ((k : Int) < 100) := by omega
        go_wp2_with fail
        with_reducible refine (KN _).out.mono ?_
        rintro x w9 ⟨rfl, hb⟩
        have B9 := Lib.hid (HB0.out.trans (hb.mono HB0.out.size))
        clear hb
        go_wp2
        go_ret
        exact ⟨rfl, B9.out⟩
    · have hi : ¬ ((k : Int) < (n : Int)) := by omega
      go_wp2_with fail
      with_reducible refine (KN _).out.mono ?_
      rintro x w9 ⟨rfl, hb⟩
      have B9 := Lib.hid (HB0.out.trans (hb.mono HB0.out.size))
      clear hb
      go_wp2
      go_ret
      exact ⟨rfl, B9.out⟩

end Go.Proofs.Ytbcelelmckkaoaa
