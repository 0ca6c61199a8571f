/-
  The walk of CrewStale.
-/
import Derived.Test.YtpbclmnhkmcknaaGreatB22
namespace Go.Proofs.YtpbclmnhkmcknaaGreat
open Go.RowKit
open Fe (Lies Own Bys Reads NF Kx Kp Note)
set_option maxRecDepth 100000
set_option linter.unusedVariables false
set_option linter.unusedSimpArgs false

/-- Over the asks. -/
def StR (w : World) (cc n : Nat) (v : Value) (wr : World) : Prop := ∃ (j : Nat) (b : CB) (q : Cq), j ≤ 60 ∧ j ≤ n ∧ v = .int .i64 (j : Int) ∧ CW w wr smR cc b q
set_option maxHeartbeats 16000000 in
theorem crewStale_walk (A : Option Addr) (n c : Nat) (X : Nat → Ax) (w : World) (hA : AV w A n c X) :
    Calls Tryz.prog 6 #[.slice A n c] w fun e w' => e = .returned (.bool true) ∧ Below w.heap.size w w' := by
  have HA := Lib.hid hA
  have hn : (n : Int) ≤ 9223372036854775807 := by have h1 := hA.1; have h2 := hA.2.1; unfold maxLen at h2; omega
  clear hA
  go_enter Tryz.func6, Tryz.ntmps6
  go_wp2_with fail
  with_reducible refine (small_any w).mono ?_
  rintro e w1 ⟨b, rfl, hs⟩
  have S_1 := Lib.hid hs
  clear hs
  obtain ⟨cc, hcc⟩ : ∃ cc, b.c = cc := ⟨_, rfl⟩
  rw [hcc] at S_1 ⊢
  clear hcc
  go_wp2_with fail
  with_reducible refine (long_any A n c X w1 (HA.out.below S_1.out.bel)).mono ?_
  rintro e w2 ⟨hb, t, rfl, ht⟩
  have S_2 := Lib.hid (S_1.out.below hb)
  have HT := Lib.hid ht
  clear hb ht S_1
  cases t
  · have HS : Hid (ShortA n X) := Lib.hid (HT.out rfl)
    clear HT
    go_wp2_with fail
    go_loopw [4] (fun i wr => StR w cc n i wr) (fun i _ => 61 - (intOf i).toNat)
    case atStart => exact ⟨0, b, smQ, by omega, by omega, rfl, S_2.out⟩
    case round =>
      clear S_2
      obtain ⟨j, b, q, hj, hjn, rfl, hS⟩ := hrel
      have S_4 := Lib.hid hS
      have HAr := Lib.hid (HA.out.below hS.bel)
      clear hS
      by_cases hlt : j < n
      · by_cases h60 : j < 60
        · have hlt2 : (j : Int) < (n : Int) := by omega
          have hlt3 : decide ((j : Int) < (n : Int)) = true := by simp; omega
          have h3 : decide ((j : Int) < 60) = true := by simp; omega
          obtain ⟨g, o, rfl, -⟩ := HAr.out.2.2.2.1 (by omega)
          obtain ⟨x0, x1, x2, x3, x4, x5, x6, x7⟩ := HAr.out.2.2.2.at j hlt
          have HX := Lib.hid (HAr.out.2.2.2.2 j hlt)
          have HX0 := Lib.hid (HA.out.2.2.2.2 j hlt)
          have HSX := Lib.hid (HS.out j hlt (by omega))
          obtain ⟨x, hx⟩ : ∃ x, X j = x := ⟨_, rfl⟩
          rw [hx] at x0 x1 x2 x3 x4 x5 x6 x7 HX HX0 HSX
          clear hx
          go_wp2_with fail
          with_reducible refine (asknote_any x wr HX.out).mono ?_
          rintro e w5 ⟨hb, A2, c2, rfl, hin, hown⟩
          have HOW := Lib.hid hown
          obtain ⟨ep, hep, hee⟩ : ∃ ep : Nat, (x.e : Int) % 6 = (ep : Int) ∧ ep < 4294967296 := ⟨x.e % 6, by omega, by omega⟩
          have HEP := Lib.hid hee
          clear hee x0 x1 x2 x3 x4 x5 x6 x7 hown
          obtain ⟨w6, HW, hl, hs, hb6, hi6⟩ : ∃ W, W = w5.alloc (.cells #[.int .i64 7, .int .u32 (ep : Int), .int .u32 0, .int .u64 0, .int .u64 0, .int .u32 (x.o : Int), .int .i64 x.s, .bool x.u, .int .i64 0, .slice none 0 0, .slice A2 (askD x).length c2] 55) ∧ Lies W w5.heap.size 55 #[.int .i64 7, .int .u32 (ep : Int), .int .u32 0, .int .u64 0, .int .u64 0, .int .u32 (x.o : Int), .int .i64 x.s, .bool x.u, .int .i64 0, .slice none 0 0, .slice A2 (askD x).length c2] ∧ CW w W smR cc b q ∧ Below wr.heap.size wr W ∧ InBytes W A2 (askD x).length c2 (askD x) := ⟨_, rfl, Lies.made w5 55 _, (S_4.out.below hb).alloc _, hb.alloc hb.size _, hin.below (Fe.below1 _ _)⟩
          have S_6 := Lib.hid hs
          have LN_6 := Lib.hid hl
          have HB_6 := Lib.hid hb6
          have HI_6 := Lib.hid hi6
          clear hb hin hl hs hb6 hi6
          go_wp2_with fail
          rw [hep]
          rw [← HW]
          clear HW hep
          with_reducible refine (cw_epoch S_6.out).mono ?_
          rintro e _ ⟨rfl, rfl⟩
          go_wp2_with fail
          with_reducible refine (cw_goods S_6.out).mono ?_
          rintro e w7 ⟨vg, rfl, hr, hb⟩
          have S_7 := Lib.hid (S_6.out.below hb)
          have LN_7 := Lib.hid (LN_6.out.below hb LN_6.out.lt)
          have HB_7 := Lib.hid (HB_6.out.trans ((hb).mono HB_6.out.size))
          have HI_7 := Lib.hid (HI_6.out.below hb)
          have RG_7 := Lib.hid hr
          clear hr
          clear hb
          go_wp2_with fail
          with_reducible refine (cw_accts S_7.out).mono ?_
          rintro e w8 ⟨va, rfl, hr, hb⟩
          have S_8 := Lib.hid (S_7.out.below hb)
          have LN_8 := Lib.hid (LN_7.out.below hb LN_7.out.lt)
          have HB_8 := Lib.hid (HB_7.out.trans ((hb).mono HB_7.out.size))
          have HI_8 := Lib.hid (HI_7.out.below hb)
          have RG_8 := Lib.hid (RG_7.out.below hb)
          have RA_8 := Lib.hid hr
          clear hr
          clear hb
          go_wp2_with fail
          with_reducible refine (cw_effects S_8.out).mono ?_
          rintro e w9 ⟨ve, rfl, hr, hb⟩
          have S_9 := Lib.hid (S_8.out.below hb)
          have LN_9 := Lib.hid (LN_8.out.below hb LN_8.out.lt)
          have HB_9 := Lib.hid (HB_8.out.trans ((hb).mono HB_8.out.size))
          have HI_9 := Lib.hid (HI_8.out.below hb)
          have RG_9 := Lib.hid (RG_8.out.below hb)
          have RA_9 := Lib.hid (RA_8.out.below hb)
          obtain ⟨Ae, ce, rfl, hme, -⟩ := F_row hr
          have RE_9 := Lib.hid hr
          have FE : Hid (∀ i, (Value.slice Ae q.E.length ce).ownBlock = some i → ¬ b.foot i) := Lib.hid (fun i hi hf => absurd (S_8.out.at_.foot_lt hf) (Nat.not_lt.2 (St.OwnE.block hr i hi).1))
          clear hr
          clear hb
          obtain ⟨n0, n1, n2, n3, n4, n5, n6, n7, n8, n9, n10⟩ := LN_9.out.cells11
          have C := Lib.hid (ask_serve2 ep HEP.out S_4.out HX0.out HSX.out HB_9.out HI_9.out HOW.out)
          go_wp2_with fail
          with_reducible refine C.out.mono ?_
          rintro e w10 ⟨b2, v2, he, hO, -, hs, hg, -⟩
          clear n0 n1 n2 n3 n4 n5 n6 n7 n8 n9 n10
          have LN_10 := Lib.hid (far55 LN_9.out S_9.out.at_ hg)
          have RG_10 := Lib.hid (G_serve RG_9.out S_9.out.at_ hg)
          have RA_10 := Lib.hid (A_serve RA_9.out S_9.out.at_ hg)
          have RE_10 := Lib.hid (F_serve (q := q) RE_9.out FE.out hg)
          have HEL : Hid (q.E.length ≤ 200) := Lib.hid (by have h1 := S_4.out.inv.el; have h2 := S_4.out.inv.n; omega)
          have HO := Lib.hid hO
          have HE := Lib.hid he
          have HSS := Lib.hid hs
          have H3 := Lib.hid (serve_three S_4.out.inv (stN ep x.o x.s x.u (askD x)) HX0.out.o)
          clear he hO hs hg C S_6 S_7 S_8 S_9 S_4
          rcases H3.out with ⟨v, r, ea, eep, ele, hd⟩ | ⟨hep2, ea⟩ | ⟨k, hk, ea⟩
          · rcases hd with hd | hd
            · as_aux_lemma =>
                have eep : _ = ep := eep
                have he := HE.out
                have hO := HO.out
                have hs := HSS.out
                rw [ea] at he hO
                obtain ⟨q2, hq2⟩ : ∃ q2, (serveS q (stN ep x.o x.s x.u (askD x))).q = q2 := ⟨_, rfl⟩
                rw [hq2] at hs eep hd
                obtain ⟨A4, c4, rfl, -, -⟩ := hO.slice
                subst he
                obtain ⟨w11, HW, hl, hs2, hb⟩ : ∃ W, W = w10.alloc (.cells #[.int .i64 8, .int .u32 (ep : Int), .int .u32 0, .int .u64 0, .int .u64 0, .int .u32 (x.o : Int), .int .i64 x.s, .bool x.u, .int .i64 v, .slice none 0 0, .slice A4 r.length c4] 55) ∧ Lies W w10.heap.size 55 #[.int .i64 8, .int .u32 (ep : Int), .int .u32 0, .int .u64 0, .int .u64 0, .int .u32 (x.o : Int), .int .i64 x.s, .bool x.u, .int .i64 v, .slice none 0 0, .slice A4 r.length c4] ∧ CW w W smR cc b2 q2 ∧ Below w10.heap.size w10 W := ⟨_, rfl, Lies.made w10 55 _, hs.alloc _, Fe.below1 _ _⟩
                have S_11 := Lib.hid hs2
                have LA_11 := Lib.hid hl
                have LN_11 := Lib.hid (LN_10.out.below hb LN_10.out.lt)
                have RG_11 := Lib.hid (RG_10.out.below hb)
                have RA_11 := Lib.hid (RA_10.out.below hb)
                have RE_11 := Lib.hid (RE_10.out.below hb)
                clear hs hs2 hl hb hO HO HE HSS H3
                go_wp2_with fail
                rw [← HW]
                clear HW
                with_reducible refine (cw_goods S_11.out).mono ?_
                rintro e w12 ⟨vh, rfl, hr, hb⟩
                have S_12 := Lib.hid (S_11.out.below hb)
                have LN_12 := Lib.hid (LN_11.out.below hb LN_11.out.lt)
                have RG_12 := Lib.hid (RG_11.out.below hb)
                have RA_12 := Lib.hid (RA_11.out.below hb)
                have RE_12 := Lib.hid (RE_11.out.below hb)
                have LA_12 := Lib.hid (LA_11.out.below hb LA_11.out.lt)
                have vhR_12 := Lib.hid hr
                clear hr
                clear hb
                go_wp2_with fail
                with_reducible refine (smG_any _ _ _ _ _ _ w12 vhR_12.out RG_12.out).mono ?_
                rintro e w13 ⟨hb, t1, rfl, ht1⟩
                have S_13 := Lib.hid (S_12.out.below hb)
                have LN_13 := Lib.hid (LN_12.out.below hb LN_12.out.lt)
                have RG_13 := Lib.hid (RG_12.out.below hb)
                have RA_13 := Lib.hid (RA_12.out.below hb)
                have RE_13 := Lib.hid (RE_12.out.below hb)
                have LA_13 := Lib.hid (LA_12.out.below hb LA_12.out.lt)
                have vhR_13 := Lib.hid (vhR_12.out.below hb)
                clear hb
                obtain rfl : t1 = true := ht1 (by rw [hd.1])
                go_wp2_with fail
                with_reducible refine (cw_accts S_13.out).mono ?_
                rintro e w14 ⟨vi, rfl, hr, hb⟩
                have S_14 := Lib.hid (S_13.out.below hb)
                have LN_14 := Lib.hid (LN_13.out.below hb LN_13.out.lt)
                have RG_14 := Lib.hid (RG_13.out.below hb)
                have RA_14 := Lib.hid (RA_13.out.below hb)
                have RE_14 := Lib.hid (RE_13.out.below hb)
                have LA_14 := Lib.hid (LA_13.out.below hb LA_13.out.lt)
                have vhR_14 := Lib.hid (vhR_13.out.below hb)
                have viR_14 := Lib.hid hr
                clear hr
                clear hb
                go_wp2_with fail
                with_reducible refine (smA_any _ _ _ _ _ _ w14 viR_14.out RA_14.out).mono ?_
                rintro e w15 ⟨hb, t2, rfl, ht2⟩
                have S_15 := Lib.hid (S_14.out.below hb)
                have LN_15 := Lib.hid (LN_14.out.below hb LN_14.out.lt)
                have RG_15 := Lib.hid (RG_14.out.below hb)
                have RA_15 := Lib.hid (RA_14.out.below hb)
                have RE_15 := Lib.hid (RE_14.out.below hb)
                have LA_15 := Lib.hid (LA_14.out.below hb LA_14.out.lt)
                have vhR_15 := Lib.hid (vhR_14.out.below hb)
                have viR_15 := Lib.hid (viR_14.out.below hb)
                clear hb
                obtain rfl : t2 = true := ht2 (by rw [hd.2.1])
                go_wp2_with fail
                with_reducible refine (cw_effects S_15.out).mono ?_
                rintro e w16 ⟨vj, rfl, hr, hb⟩
                have S_16 := Lib.hid (S_15.out.below hb)
                have LN_16 := Lib.hid (LN_15.out.below hb LN_15.out.lt)
                have RG_16 := Lib.hid (RG_15.out.below hb)
                have RA_16 := Lib.hid (RA_15.out.below hb)
                have RE_16 := Lib.hid (RE_15.out.below hb)
                have LA_16 := Lib.hid (LA_15.out.below hb LA_15.out.lt)
                have vhR_16 := Lib.hid (vhR_15.out.below hb)
                have viR_16 := Lib.hid (viR_15.out.below hb)
                have vjR_16 := Lib.hid hr
                clear hr
                clear hb
                go_wp2_with fail
                with_reducible refine (smF_any _ _ _ _ _ _ w16 vjR_16.out RE_16.out).mono ?_
                rintro e w17 ⟨hb, t3, rfl, ht3⟩
                have S_17 := Lib.hid (S_16.out.below hb)
                have LN_17 := Lib.hid (LN_16.out.below hb LN_16.out.lt)
                have RG_17 := Lib.hid (RG_16.out.below hb)
                have RA_17 := Lib.hid (RA_16.out.below hb)
                have RE_17 := Lib.hid (RE_16.out.below hb)
                have LA_17 := Lib.hid (LA_16.out.below hb LA_16.out.lt)
                have vhR_17 := Lib.hid (vhR_16.out.below hb)
                have viR_17 := Lib.hid (viR_16.out.below hb)
                have vjR_17 := Lib.hid (vjR_16.out.below hb)
                clear hb
                obtain rfl : t3 = true := ht3 hd.2.2
                obtain ⟨n0, n1, n2, n3, n4, n5, n6, n7, n8, n9, n10⟩ := LN_17.out.cells11
                obtain ⟨a0, a1, a2, a3, a4, a5, a6, a7, a8, a9, a10⟩ := LA_17.out.cells11
                have d1 : decide ((ep : Int) < (q.f.ep : Int)) = false := by simp; exact ele
                have d1b : decide (ep < q.f.ep) = false := decide_eq_false (Nat.not_lt.2 ele)
                have SD := Lib.hid (S_17.out.below (Below.refl w17.heap.size w17).drew)
                have hw : IntKind.i64.wrap ((q.E.length : Int) + 1) = (q.E.length : Int) + 1 := IntWalk.i64_in _ (by have := HEL.out; omega)
                have fE : (((q.E.length + 1 : Nat) : Int) == (q.E.length : Int) + 1) = true := by simp
                go_wp2_with fail
                refine wp_region_noPanic ?_
                refine wp_region_held_drew (S := fun W => Lies W w5.heap.size 55 #[.int .i64 7, .int .u32 (ep : Int), .int .u32 0, .int .u64 0, .int .u64 0, .int .u32 (x.o : Int), .int .i64 x.s, .bool x.u, .int .i64 0, .slice none 0 0, .slice A2 (askD x).length c2] ∧ Lies W w10.heap.size 55 #[.int .i64 8, .int .u32 (ep : Int), .int .u32 0, .int .u64 0, .int .u64 0, .int .u32 (x.o : Int), .int .i64 x.s, .bool x.u, .int .i64 v, .slice none 0 0, .slice A4 r.length c4]) (by kernel_rfl) (⟨LN_17.out, LA_17.out⟩) (fun hH0 => ?_)
                refine Fe.any_take 0 75 ?vt2 rfl rfl (by kernel_rfl) (by kernel_rfl) (by kernel_rfl) (fun _ _ _ h => h) (by rfl) ?ht2 hH0 ?rt2
                case ht2 => ((intro W hSw); obtain ⟨n0, n1, n2, n3, n4, n5, n6, n7, n8, n9, n10⟩ := hSw.1.cells11; obtain ⟨a0, a1, a2, a3, a4, a5, a6, a7, a8, a9, a10⟩ := hSw.2.cells11; go_simp; (try with_reducible rfl))
                try simp only [Act.put, List.setIfInBounds_toArray, List.set_cons_zero, List.set_cons_succ]
                refine Fe.any_take 1 76 ?vt3 rfl rfl (by kernel_rfl) (by kernel_rfl) (by kernel_rfl) (fun _ _ _ h => h) (by rfl) ?ht3 hH0 ?rt3
                case ht3 => ((intro W hSw); obtain ⟨n0, n1, n2, n3, n4, n5, n6, n7, n8, n9, n10⟩ := hSw.1.cells11; obtain ⟨a0, a1, a2, a3, a4, a5, a6, a7, a8, a9, a10⟩ := hSw.2.cells11; go_simp; (try with_reducible rfl))
                try simp only [Act.put, List.setIfInBounds_toArray, List.set_cons_zero, List.set_cons_succ]
                refine Fe.any_take 2 77 ?vt4 rfl rfl (by kernel_rfl) (by kernel_rfl) (by kernel_rfl) (fun _ _ _ h => h) (by rfl) ?ht4 hH0 ?rt4
                case ht4 => ((intro W hSw); obtain ⟨n0, n1, n2, n3, n4, n5, n6, n7, n8, n9, n10⟩ := hSw.1.cells11; obtain ⟨a0, a1, a2, a3, a4, a5, a6, a7, a8, a9, a10⟩ := hSw.2.cells11; go_simp; (try with_reducible rfl))
                try simp only [Act.put, List.setIfInBounds_toArray, List.set_cons_zero, List.set_cons_succ]
                refine Fe.any_take 3 78 ?vt5 rfl rfl (by kernel_rfl) (by kernel_rfl) (by kernel_rfl) (fun _ _ _ h => h) (by rfl) ?ht5 hH0 ?rt5
                case ht5 => ((intro W hSw); obtain ⟨n0, n1, n2, n3, n4, n5, n6, n7, n8, n9, n10⟩ := hSw.1.cells11; obtain ⟨a0, a1, a2, a3, a4, a5, a6, a7, a8, a9, a10⟩ := hSw.2.cells11; go_simp; (try with_reducible rfl))
                try simp only [Act.put, List.setIfInBounds_toArray, List.set_cons_zero, List.set_cons_succ]
                refine Fe.any_take 4 79 ?vt6 rfl rfl (by kernel_rfl) (by kernel_rfl) (by kernel_rfl) (fun _ _ _ h => h) (by rfl) ?ht6 hH0 ?rt6
                case ht6 => ((intro W hSw); obtain ⟨n0, n1, n2, n3, n4, n5, n6, n7, n8, n9, n10⟩ := hSw.1.cells11; obtain ⟨a0, a1, a2, a3, a4, a5, a6, a7, a8, a9, a10⟩ := hSw.2.cells11; go_simp; (try with_reducible rfl))
                try simp only [Act.put, List.setIfInBounds_toArray, List.set_cons_zero, List.set_cons_succ]
                refine Fe.any_take 5 80 ?vt7 rfl rfl (by kernel_rfl) (by kernel_rfl) (by kernel_rfl) (fun _ _ _ h => h) (by rfl) ?ht7 hH0 ?rt7
                case ht7 => ((intro W hSw); obtain ⟨n0, n1, n2, n3, n4, n5, n6, n7, n8, n9, n10⟩ := hSw.1.cells11; obtain ⟨a0, a1, a2, a3, a4, a5, a6, a7, a8, a9, a10⟩ := hSw.2.cells11; go_simp; (try with_reducible rfl))
                try simp only [Act.put, List.setIfInBounds_toArray, List.set_cons_zero, List.set_cons_succ]
                refine Fe.any_take 6 81 ?vt8 rfl rfl (by kernel_rfl) (by kernel_rfl) (by kernel_rfl) (fun _ _ _ h => h) (by rfl) ?ht8 hH0 ?rt8
                case ht8 => ((intro W hSw); obtain ⟨n0, n1, n2, n3, n4, n5, n6, n7, n8, n9, n10⟩ := hSw.1.cells11; obtain ⟨a0, a1, a2, a3, a4, a5, a6, a7, a8, a9, a10⟩ := hSw.2.cells11; go_simp; (try with_reducible rfl))
                try simp only [Act.put, List.setIfInBounds_toArray, List.set_cons_zero, List.set_cons_succ]
                refine Fe.any_take 8 83 ?vt9 rfl rfl (by kernel_rfl) (by kernel_rfl) (by kernel_rfl) (fun _ _ _ h => h) (by rfl) ?ht9 hH0 ?rt9
                case ht9 => ((intro W hSw); obtain ⟨n0, n1, n2, n3, n4, n5, n6, n7, n8, n9, n10⟩ := hSw.1.cells11; obtain ⟨a0, a1, a2, a3, a4, a5, a6, a7, a8, a9, a10⟩ := hSw.2.cells11; go_simp; (try with_reducible rfl))
                try simp only [Act.put, List.setIfInBounds_toArray, List.set_cons_zero, List.set_cons_succ]
                refine wpAnyH_ready (rs := [7, 9]) (by kernel_rfl) (by simp) ?_
                refine AllReadyH.cons rfl (fun K hK => ?ord1) (AllReadyH.cons rfl (fun K hK => ?ord2) AllReadyH.nil)
                case ord1 =>
                  as_aux_lemma =>
                    go_simp
                    go_at_call 26
                    with_reducible refine (cw_epoch SD.out).mono ?_
                    rintro e _ ⟨rfl, rfl⟩
                    rw [eep]
                    refine hK.out _ _ (⟨LN_17.out, LA_17.out⟩) (fun hH1 => ?_)
                    clear hK K hH0
                    try simp only [Act.put, List.setIfInBounds_toArray, List.set_cons_zero, List.set_cons_succ]
                    refine Fe.any_take 9 84 ?vt10 rfl rfl (by kernel_rfl) (by kernel_rfl) (by kernel_rfl) (fun _ _ _ h => h) (by rfl) ?ht10 hH1 ?rt10
                    case ht10 => ((intro W hSw); obtain ⟨n0, n1, n2, n3, n4, n5, n6, n7, n8, n9, n10⟩ := hSw.1.cells11; obtain ⟨a0, a1, a2, a3, a4, a5, a6, a7, a8, a9, a10⟩ := hSw.2.cells11; go_simp; (try with_reducible rfl))
                    try simp only [Act.put, List.setIfInBounds_toArray, List.set_cons_zero, List.set_cons_succ]
                    refine Fe.any_take 10 85 ?vt11 rfl rfl (by kernel_rfl) (by kernel_rfl) (by kernel_rfl) (fun _ _ _ h => h) (by rfl) ?ht11 hH1 ?rt11
                    case ht11 => ((intro W hSw); obtain ⟨n0, n1, n2, n3, n4, n5, n6, n7, n8, n9, n10⟩ := hSw.1.cells11; obtain ⟨a0, a1, a2, a3, a4, a5, a6, a7, a8, a9, a10⟩ := hSw.2.cells11; go_simp; (try with_reducible rfl))
                    try simp only [Act.put, List.setIfInBounds_toArray, List.set_cons_zero, List.set_cons_succ]
                    refine Fe.any_take 11 86 ?vt12 rfl rfl (by kernel_rfl) (by kernel_rfl) (by kernel_rfl) (fun _ _ _ h => h) (by rfl) ?ht12 hH1 ?rt12
                    case ht12 => ((intro W hSw); obtain ⟨n0, n1, n2, n3, n4, n5, n6, n7, n8, n9, n10⟩ := hSw.1.cells11; obtain ⟨a0, a1, a2, a3, a4, a5, a6, a7, a8, a9, a10⟩ := hSw.2.cells11; go_simp; (try with_reducible rfl))
                    try simp only [Act.put, List.setIfInBounds_toArray, List.set_cons_zero, List.set_cons_succ]
                    refine Fe.any_take 12 87 ?vt13 rfl rfl (by kernel_rfl) (by kernel_rfl) (by kernel_rfl) (fun _ _ _ h => h) (by rfl) ?ht13 hH1 ?rt13
                    case ht13 => ((intro W hSw); obtain ⟨n0, n1, n2, n3, n4, n5, n6, n7, n8, n9, n10⟩ := hSw.1.cells11; obtain ⟨a0, a1, a2, a3, a4, a5, a6, a7, a8, a9, a10⟩ := hSw.2.cells11; go_simp; (try with_reducible rfl))
                    try simp only [Act.put, List.setIfInBounds_toArray, List.set_cons_zero, List.set_cons_succ]
                    refine Fe.any_take 13 88 ?vt14 rfl rfl (by kernel_rfl) (by kernel_rfl) (by kernel_rfl) (fun _ _ _ h => h) (by rfl) ?ht14 hH1 ?rt14
                    case ht14 => ((intro W hSw); obtain ⟨n0, n1, n2, n3, n4, n5, n6, n7, n8, n9, n10⟩ := hSw.1.cells11; obtain ⟨a0, a1, a2, a3, a4, a5, a6, a7, a8, a9, a10⟩ := hSw.2.cells11; go_simp; (try with_reducible rfl))
                    try simp only [Act.put, List.setIfInBounds_toArray, List.set_cons_zero, List.set_cons_succ]
                    refine Fe.any_take 14 89 ?vt15 rfl rfl (by kernel_rfl) (by kernel_rfl) (by kernel_rfl) (fun _ _ _ h => h) (by rfl) ?ht15 hH1 ?rt15
                    case ht15 => ((intro W hSw); obtain ⟨n0, n1, n2, n3, n4, n5, n6, n7, n8, n9, n10⟩ := hSw.1.cells11; obtain ⟨a0, a1, a2, a3, a4, a5, a6, a7, a8, a9, a10⟩ := hSw.2.cells11; go_simp; (try with_reducible rfl))
                    try simp only [Act.put, List.setIfInBounds_toArray, List.set_cons_zero, List.set_cons_succ]
                    refine Fe.any_take 15 90 ?vt16 rfl rfl (by kernel_rfl) (by kernel_rfl) (by kernel_rfl) (fun _ _ _ h => h) (by rfl) ?ht16 hH1 ?rt16
                    case ht16 => ((intro W hSw); obtain ⟨n0, n1, n2, n3, n4, n5, n6, n7, n8, n9, n10⟩ := hSw.1.cells11; obtain ⟨a0, a1, a2, a3, a4, a5, a6, a7, a8, a9, a10⟩ := hSw.2.cells11; go_simp; (try with_reducible rfl))
                    try simp only [Act.put, List.setIfInBounds_toArray, List.set_cons_zero, List.set_cons_succ]
                    refine Fe.any_take 16 91 ?vt17 rfl rfl (by kernel_rfl) (by kernel_rfl) (by kernel_rfl) (fun _ _ _ h => h) (by rfl) ?ht17 hH1 ?rt17
                    case ht17 => ((intro W hSw); obtain ⟨n0, n1, n2, n3, n4, n5, n6, n7, n8, n9, n10⟩ := hSw.1.cells11; obtain ⟨a0, a1, a2, a3, a4, a5, a6, a7, a8, a9, a10⟩ := hSw.2.cells11; go_simp; (try with_reducible rfl))
                    try simp only [Act.put, List.setIfInBounds_toArray, List.set_cons_zero, List.set_cons_succ]
                    refine Fe.any_take 17 92 ?vt18 rfl rfl (by kernel_rfl) (by kernel_rfl) (by kernel_rfl) (fun _ _ _ h => h) (by rfl) ?ht18 hH1 ?rt18
                    case ht18 => ((intro W hSw); obtain ⟨n0, n1, n2, n3, n4, n5, n6, n7, n8, n9, n10⟩ := hSw.1.cells11; obtain ⟨a0, a1, a2, a3, a4, a5, a6, a7, a8, a9, a10⟩ := hSw.2.cells11; go_simp; (try with_reducible rfl))
                    try simp only [Act.put, List.setIfInBounds_toArray, List.set_cons_zero, List.set_cons_succ]
                    refine Fe.any_take 18 93 ?vt19 rfl rfl (by kernel_rfl) (by kernel_rfl) (by kernel_rfl) (fun _ _ _ h => h) (by rfl) ?ht19 hH1 ?rt19
                    case ht19 => ((intro W hSw); obtain ⟨n0, n1, n2, n3, n4, n5, n6, n7, n8, n9, n10⟩ := hSw.1.cells11; obtain ⟨a0, a1, a2, a3, a4, a5, a6, a7, a8, a9, a10⟩ := hSw.2.cells11; go_simp; (try with_reducible rfl))
                    try simp only [Act.put, List.setIfInBounds_toArray, List.set_cons_zero, List.set_cons_succ]
                    refine Fe.any_take 19 94 ?vt20 rfl rfl (by kernel_rfl) (by kernel_rfl) (by kernel_rfl) (fun _ _ _ h => h) (by rfl) ?ht20 hH1 ?rt20
                    case ht20 => ((intro W hSw); obtain ⟨n0, n1, n2, n3, n4, n5, n6, n7, n8, n9, n10⟩ := hSw.1.cells11; obtain ⟨a0, a1, a2, a3, a4, a5, a6, a7, a8, a9, a10⟩ := hSw.2.cells11; go_simp; (try with_reducible rfl))
                    try simp only [Act.put, List.setIfInBounds_toArray, List.set_cons_zero, List.set_cons_succ]
                    refine Fe.any_take 20 95 ?vt21 rfl rfl (by kernel_rfl) (by kernel_rfl) (by kernel_rfl) (fun _ _ _ h => h) (by rfl) ?ht21 hH1 ?rt21
                    case ht21 => ((intro W hSw); obtain ⟨n0, n1, n2, n3, n4, n5, n6, n7, n8, n9, n10⟩ := hSw.1.cells11; obtain ⟨a0, a1, a2, a3, a4, a5, a6, a7, a8, a9, a10⟩ := hSw.2.cells11; go_simp; (try with_reducible rfl))
                    try simp only [Act.put, List.setIfInBounds_toArray, List.set_cons_zero, List.set_cons_succ]
                    refine Fe.any_take 21 96 ?vt22 rfl rfl (by kernel_rfl) (by kernel_rfl) (by kernel_rfl) (fun _ _ _ h => h) (by rfl) ?ht22 hH1 ?rt22
                    case ht22 => ((intro W hSw); obtain ⟨n0, n1, n2, n3, n4, n5, n6, n7, n8, n9, n10⟩ := hSw.1.cells11; obtain ⟨a0, a1, a2, a3, a4, a5, a6, a7, a8, a9, a10⟩ := hSw.2.cells11; go_simp; (try with_reducible rfl))
                    try simp only [Act.put, List.setIfInBounds_toArray, List.set_cons_zero, List.set_cons_succ]
                    refine Fe.any_skip 22 97 rfl rfl (by kernel_rfl) (by kernel_rfl) (by kernel_rfl) (fun _ _ _ h => h) (by rfl) hH1 ?_
                    try simp only [Act.put, List.setIfInBounds_toArray, List.set_cons_zero, List.set_cons_succ]
                    refine Fe.any_skip 23 98 rfl rfl (by kernel_rfl) (by kernel_rfl) (by kernel_rfl) (fun _ _ _ h => h) (by rfl) hH1 ?_
                    try simp only [Act.put, List.setIfInBounds_toArray, List.set_cons_zero, List.set_cons_succ]
                    refine Fe.any_skip 24 99 rfl rfl (by kernel_rfl) (by kernel_rfl) (by kernel_rfl) (fun _ _ _ h => h) (by rfl) hH1 ?_
                    try simp only [Act.put, List.setIfInBounds_toArray, List.set_cons_zero, List.set_cons_succ]
                    refine Fe.any_skip 25 100 rfl rfl (by kernel_rfl) (by kernel_rfl) (by kernel_rfl) (fun _ _ _ h => h) (by rfl) hH1 ?_
                    try simp only [Act.put, List.setIfInBounds_toArray, List.set_cons_zero, List.set_cons_succ]
                    refine Fe.any_skip 26 101 rfl rfl (by kernel_rfl) (by kernel_rfl) (by kernel_rfl) (fun _ _ _ h => h) (by rfl) hH1 ?_
                    try simp only [Act.put, List.setIfInBounds_toArray, List.set_cons_zero, List.set_cons_succ]
                    refine Fe.any_skip 27 102 rfl rfl (by kernel_rfl) (by kernel_rfl) (by kernel_rfl) (fun _ _ _ h => h) (by rfl) hH1 ?_
                    try simp only [Act.put, List.setIfInBounds_toArray, List.set_cons_zero, List.set_cons_succ]
                    refine Fe.any_skip 28 103 rfl rfl (by kernel_rfl) (by kernel_rfl) (by kernel_rfl) (fun _ _ _ h => h) (by rfl) hH1 ?_
                    try simp only [Act.put, List.setIfInBounds_toArray, List.set_cons_zero, List.set_cons_succ]
                    refine Fe.any_take 29 104 ?vt23 rfl rfl (by kernel_rfl) (by kernel_rfl) (by kernel_rfl) (fun _ _ _ h => h) (by rfl) ?ht23 hH1 ?rt23
                    case ht23 => ((intro W hSw); obtain ⟨n0, n1, n2, n3, n4, n5, n6, n7, n8, n9, n10⟩ := hSw.1.cells11; obtain ⟨a0, a1, a2, a3, a4, a5, a6, a7, a8, a9, a10⟩ := hSw.2.cells11; go_simp; (try with_reducible rfl))
                    try simp only [Act.put, List.setIfInBounds_toArray, List.set_cons_zero, List.set_cons_succ]
                    refine Fe.any_take 30 105 ?vt24 rfl rfl (by kernel_rfl) (by kernel_rfl) (by kernel_rfl) (fun _ _ _ h => h) (by rfl) ?ht24 hH1 ?rt24
                    case ht24 => ((intro W hSw); obtain ⟨n0, n1, n2, n3, n4, n5, n6, n7, n8, n9, n10⟩ := hSw.1.cells11; obtain ⟨a0, a1, a2, a3, a4, a5, a6, a7, a8, a9, a10⟩ := hSw.2.cells11; go_simp; (try with_reducible rfl))
                    try simp only [Act.put, List.setIfInBounds_toArray, List.set_cons_zero, List.set_cons_succ]
                    clear hH1
                    refine wpAnyH_done (by kernel_rfl) ?_ _
                    refine NoPanic.normal ?_
                    go_wp2
                    go_roundw
                    case rel => exact ⟨j + 1, b2, q2, by omega, by omega, by go_num, SD.out⟩
                    case measure => simp [intOf]; omega
                case ord2 =>
                  as_aux_lemma =>
                    obtain ⟨n0, n1, n2, n3, n4, n5, n6, n7, n8, n9, n10⟩ := LN_17.out.cells11
                    go_simp
                    refine hK.out _ _ (⟨LN_17.out, LA_17.out⟩) (fun hH1 => ?_)
                    clear hK K hH0 n0 n1 n2 n3 n4 n5 n6 n7 n8 n9 n10
                    try simp only [Act.put, List.setIfInBounds_toArray, List.set_cons_zero, List.set_cons_succ]
                    refine wpAnyH_ready (rs := [7]) (by kernel_rfl) (by simp) ?_
                    refine AllReadyH.cons rfl (fun K hK => ?_) AllReadyH.nil
                    go_simp
                    go_at_call 26
                    with_reducible refine (cw_epoch SD.out).mono ?_
                    rintro e _ ⟨rfl, rfl⟩
                    rw [eep]
                    refine hK.out _ _ (⟨LN_17.out, LA_17.out⟩) (fun hH2 => ?_)
                    clear hK K hH1
                    try simp only [Act.put, List.setIfInBounds_toArray, List.set_cons_zero, List.set_cons_succ]
                    refine Fe.any_take 10 85 ?vt25 rfl rfl (by kernel_rfl) (by kernel_rfl) (by kernel_rfl) (fun _ _ _ h => h) (by rfl) ?ht25 hH2 ?rt25
                    case ht25 => ((intro W hSw); obtain ⟨n0, n1, n2, n3, n4, n5, n6, n7, n8, n9, n10⟩ := hSw.1.cells11; obtain ⟨a0, a1, a2, a3, a4, a5, a6, a7, a8, a9, a10⟩ := hSw.2.cells11; go_simp; (try with_reducible rfl))
                    try simp only [Act.put, List.setIfInBounds_toArray, List.set_cons_zero, List.set_cons_succ]
                    refine Fe.any_take 11 86 ?vt26 rfl rfl (by kernel_rfl) (by kernel_rfl) (by kernel_rfl) (fun _ _ _ h => h) (by rfl) ?ht26 hH2 ?rt26
                    case ht26 => ((intro W hSw); obtain ⟨n0, n1, n2, n3, n4, n5, n6, n7, n8, n9, n10⟩ := hSw.1.cells11; obtain ⟨a0, a1, a2, a3, a4, a5, a6, a7, a8, a9, a10⟩ := hSw.2.cells11; go_simp; (try with_reducible rfl))
                    try simp only [Act.put, List.setIfInBounds_toArray, List.set_cons_zero, List.set_cons_succ]
                    refine Fe.any_take 12 87 ?vt27 rfl rfl (by kernel_rfl) (by kernel_rfl) (by kernel_rfl) (fun _ _ _ h => h) (by rfl) ?ht27 hH2 ?rt27
                    case ht27 => ((intro W hSw); obtain ⟨n0, n1, n2, n3, n4, n5, n6, n7, n8, n9, n10⟩ := hSw.1.cells11; obtain ⟨a0, a1, a2, a3, a4, a5, a6, a7, a8, a9, a10⟩ := hSw.2.cells11; go_simp; (try with_reducible rfl))
                    try simp only [Act.put, List.setIfInBounds_toArray, List.set_cons_zero, List.set_cons_succ]
                    refine Fe.any_take 13 88 ?vt28 rfl rfl (by kernel_rfl) (by kernel_rfl) (by kernel_rfl) (fun _ _ _ h => h) (by rfl) ?ht28 hH2 ?rt28
                    case ht28 => ((intro W hSw); obtain ⟨n0, n1, n2, n3, n4, n5, n6, n7, n8, n9, n10⟩ := hSw.1.cells11; obtain ⟨a0, a1, a2, a3, a4, a5, a6, a7, a8, a9, a10⟩ := hSw.2.cells11; go_simp; (try with_reducible rfl))
                    try simp only [Act.put, List.setIfInBounds_toArray, List.set_cons_zero, List.set_cons_succ]
                    refine Fe.any_take 14 89 ?vt29 rfl rfl (by kernel_rfl) (by kernel_rfl) (by kernel_rfl) (fun _ _ _ h => h) (by rfl) ?ht29 hH2 ?rt29
                    case ht29 => ((intro W hSw); obtain ⟨n0, n1, n2, n3, n4, n5, n6, n7, n8, n9, n10⟩ := hSw.1.cells11; obtain ⟨a0, a1, a2, a3, a4, a5, a6, a7, a8, a9, a10⟩ := hSw.2.cells11; go_simp; (try with_reducible rfl))
                    try simp only [Act.put, List.setIfInBounds_toArray, List.set_cons_zero, List.set_cons_succ]
                    refine Fe.any_take 15 90 ?vt30 rfl rfl (by kernel_rfl) (by kernel_rfl) (by kernel_rfl) (fun _ _ _ h => h) (by rfl) ?ht30 hH2 ?rt30
                    case ht30 => ((intro W hSw); obtain ⟨n0, n1, n2, n3, n4, n5, n6, n7, n8, n9, n10⟩ := hSw.1.cells11; obtain ⟨a0, a1, a2, a3, a4, a5, a6, a7, a8, a9, a10⟩ := hSw.2.cells11; go_simp; (try with_reducible rfl))
                    try simp only [Act.put, List.setIfInBounds_toArray, List.set_cons_zero, List.set_cons_succ]
                    refine Fe.any_take 16 91 ?vt31 rfl rfl (by kernel_rfl) (by kernel_rfl) (by kernel_rfl) (fun _ _ _ h => h) (by rfl) ?ht31 hH2 ?rt31
                    case ht31 => ((intro W hSw); obtain ⟨n0, n1, n2, n3, n4, n5, n6, n7, n8, n9, n10⟩ := hSw.1.cells11; obtain ⟨a0, a1, a2, a3, a4, a5, a6, a7, a8, a9, a10⟩ := hSw.2.cells11; go_simp; (try with_reducible rfl))
                    try simp only [Act.put, List.setIfInBounds_toArray, List.set_cons_zero, List.set_cons_succ]
                    refine Fe.any_take 17 92 ?vt32 rfl rfl (by kernel_rfl) (by kernel_rfl) (by kernel_rfl) (fun _ _ _ h => h) (by rfl) ?ht32 hH2 ?rt32
                    case ht32 => ((intro W hSw); obtain ⟨n0, n1, n2, n3, n4, n5, n6, n7, n8, n9, n10⟩ := hSw.1.cells11; obtain ⟨a0, a1, a2, a3, a4, a5, a6, a7, a8, a9, a10⟩ := hSw.2.cells11; go_simp; (try with_reducible rfl))
                    try simp only [Act.put, List.setIfInBounds_toArray, List.set_cons_zero, List.set_cons_succ]
                    refine Fe.any_take 18 93 ?vt33 rfl rfl (by kernel_rfl) (by kernel_rfl) (by kernel_rfl) (fun _ _ _ h => h) (by rfl) ?ht33 hH2 ?rt33
                    case ht33 => ((intro W hSw); obtain ⟨n0, n1, n2, n3, n4, n5, n6, n7, n8, n9, n10⟩ := hSw.1.cells11; obtain ⟨a0, a1, a2, a3, a4, a5, a6, a7, a8, a9, a10⟩ := hSw.2.cells11; go_simp; (try with_reducible rfl))
                    try simp only [Act.put, List.setIfInBounds_toArray, List.set_cons_zero, List.set_cons_succ]
                    refine Fe.any_take 19 94 ?vt34 rfl rfl (by kernel_rfl) (by kernel_rfl) (by kernel_rfl) (fun _ _ _ h => h) (by rfl) ?ht34 hH2 ?rt34
                    case ht34 => ((intro W hSw); obtain ⟨n0, n1, n2, n3, n4, n5, n6, n7, n8, n9, n10⟩ := hSw.1.cells11; obtain ⟨a0, a1, a2, a3, a4, a5, a6, a7, a8, a9, a10⟩ := hSw.2.cells11; go_simp; (try with_reducible rfl))
                    try simp only [Act.put, List.setIfInBounds_toArray, List.set_cons_zero, List.set_cons_succ]
                    refine Fe.any_take 20 95 ?vt35 rfl rfl (by kernel_rfl) (by kernel_rfl) (by kernel_rfl) (fun _ _ _ h => h) (by rfl) ?ht35 hH2 ?rt35
                    case ht35 => ((intro W hSw); obtain ⟨n0, n1, n2, n3, n4, n5, n6, n7, n8, n9, n10⟩ := hSw.1.cells11; obtain ⟨a0, a1, a2, a3, a4, a5, a6, a7, a8, a9, a10⟩ := hSw.2.cells11; go_simp; (try with_reducible rfl))
                    try simp only [Act.put, List.setIfInBounds_toArray, List.set_cons_zero, List.set_cons_succ]
                    refine Fe.any_take 21 96 ?vt36 rfl rfl (by kernel_rfl) (by kernel_rfl) (by kernel_rfl) (fun _ _ _ h => h) (by rfl) ?ht36 hH2 ?rt36
                    case ht36 => ((intro W hSw); obtain ⟨n0, n1, n2, n3, n4, n5, n6, n7, n8, n9, n10⟩ := hSw.1.cells11; obtain ⟨a0, a1, a2, a3, a4, a5, a6, a7, a8, a9, a10⟩ := hSw.2.cells11; go_simp; (try with_reducible rfl))
                    try simp only [Act.put, List.setIfInBounds_toArray, List.set_cons_zero, List.set_cons_succ]
                    refine Fe.any_skip 22 97 rfl rfl (by kernel_rfl) (by kernel_rfl) (by kernel_rfl) (fun _ _ _ h => h) (by rfl) hH2 ?_
                    try simp only [Act.put, List.setIfInBounds_toArray, List.set_cons_zero, List.set_cons_succ]
                    refine Fe.any_skip 23 98 rfl rfl (by kernel_rfl) (by kernel_rfl) (by kernel_rfl) (fun _ _ _ h => h) (by rfl) hH2 ?_
                    try simp only [Act.put, List.setIfInBounds_toArray, List.set_cons_zero, List.set_cons_succ]
                    refine Fe.any_skip 24 99 rfl rfl (by kernel_rfl) (by kernel_rfl) (by kernel_rfl) (fun _ _ _ h => h) (by rfl) hH2 ?_
                    try simp only [Act.put, List.setIfInBounds_toArray, List.set_cons_zero, List.set_cons_succ]
                    refine Fe.any_skip 25 100 rfl rfl (by kernel_rfl) (by kernel_rfl) (by kernel_rfl) (fun _ _ _ h => h) (by rfl) hH2 ?_
                    try simp only [Act.put, List.setIfInBounds_toArray, List.set_cons_zero, List.set_cons_succ]
                    refine Fe.any_skip 26 101 rfl rfl (by kernel_rfl) (by kernel_rfl) (by kernel_rfl) (fun _ _ _ h => h) (by rfl) hH2 ?_
                    try simp only [Act.put, List.setIfInBounds_toArray, List.set_cons_zero, List.set_cons_succ]
                    refine Fe.any_skip 27 102 rfl rfl (by kernel_rfl) (by kernel_rfl) (by kernel_rfl) (fun _ _ _ h => h) (by rfl) hH2 ?_
                    try simp only [Act.put, List.setIfInBounds_toArray, List.set_cons_zero, List.set_cons_succ]
                    refine Fe.any_skip 28 103 rfl rfl (by kernel_rfl) (by kernel_rfl) (by kernel_rfl) (fun _ _ _ h => h) (by rfl) hH2 ?_
                    try simp only [Act.put, List.setIfInBounds_toArray, List.set_cons_zero, List.set_cons_succ]
                    refine Fe.any_take 29 104 ?vt37 rfl rfl (by kernel_rfl) (by kernel_rfl) (by kernel_rfl) (fun _ _ _ h => h) (by rfl) ?ht37 hH2 ?rt37
                    case ht37 => ((intro W hSw); obtain ⟨n0, n1, n2, n3, n4, n5, n6, n7, n8, n9, n10⟩ := hSw.1.cells11; obtain ⟨a0, a1, a2, a3, a4, a5, a6, a7, a8, a9, a10⟩ := hSw.2.cells11; go_simp; (try with_reducible rfl))
                    try simp only [Act.put, List.setIfInBounds_toArray, List.set_cons_zero, List.set_cons_succ]
                    refine Fe.any_take 30 105 ?vt38 rfl rfl (by kernel_rfl) (by kernel_rfl) (by kernel_rfl) (fun _ _ _ h => h) (by rfl) ?ht38 hH2 ?rt38
                    case ht38 => ((intro W hSw); obtain ⟨n0, n1, n2, n3, n4, n5, n6, n7, n8, n9, n10⟩ := hSw.1.cells11; obtain ⟨a0, a1, a2, a3, a4, a5, a6, a7, a8, a9, a10⟩ := hSw.2.cells11; go_simp; (try with_reducible rfl))
                    try simp only [Act.put, List.setIfInBounds_toArray, List.set_cons_zero, List.set_cons_succ]
                    clear hH2
                    refine wpAnyH_done (by kernel_rfl) ?_ _
                    refine NoPanic.normal ?_
                    go_wp2
                    go_roundw
                    case rel => exact ⟨j + 1, b2, q2, by omega, by omega, by go_num, SD.out⟩
                    case measure => simp [intOf]; omega
            · as_aux_lemma =>
                have eep : _ = ep := eep
                have he := HE.out
                have hO := HO.out
                have hs := HSS.out
                rw [ea] at he hO
                obtain ⟨q2, hq2⟩ : ∃ q2, (serveS q (stN ep x.o x.s x.u (askD x))).q = q2 := ⟨_, rfl⟩
                rw [hq2] at hs eep hd
                obtain ⟨A4, c4, rfl, -, -⟩ := hO.slice
                subst he
                obtain ⟨w11, HW, hl, hs2, hb⟩ : ∃ W, W = w10.alloc (.cells #[.int .i64 8, .int .u32 (ep : Int), .int .u32 0, .int .u64 0, .int .u64 0, .int .u32 (x.o : Int), .int .i64 x.s, .bool x.u, .int .i64 v, .slice none 0 0, .slice A4 r.length c4] 55) ∧ Lies W w10.heap.size 55 #[.int .i64 8, .int .u32 (ep : Int), .int .u32 0, .int .u64 0, .int .u64 0, .int .u32 (x.o : Int), .int .i64 x.s, .bool x.u, .int .i64 v, .slice none 0 0, .slice A4 r.length c4] ∧ CW w W smR cc b2 q2 ∧ Below w10.heap.size w10 W := ⟨_, rfl, Lies.made w10 55 _, hs.alloc _, Fe.below1 _ _⟩
                have S_11 := Lib.hid hs2
                have LA_11 := Lib.hid hl
                have LN_11 := Lib.hid (LN_10.out.below hb LN_10.out.lt)
                have RG_11 := Lib.hid (RG_10.out.below hb)
                have RA_11 := Lib.hid (RA_10.out.below hb)
                have RE_11 := Lib.hid (RE_10.out.below hb)
                clear hs hs2 hl hb hO HO HE HSS H3
                go_wp2_with fail
                rw [← HW]
                clear HW
                with_reducible refine (cw_goods S_11.out).mono ?_
                rintro e w12 ⟨vh, rfl, hr, hb⟩
                have S_12 := Lib.hid (S_11.out.below hb)
                have LN_12 := Lib.hid (LN_11.out.below hb LN_11.out.lt)
                have RG_12 := Lib.hid (RG_11.out.below hb)
                have RA_12 := Lib.hid (RA_11.out.below hb)
                have RE_12 := Lib.hid (RE_11.out.below hb)
                have LA_12 := Lib.hid (LA_11.out.below hb LA_11.out.lt)
                have vhR_12 := Lib.hid hr
                clear hr
                clear hb
                go_wp2_with fail
                with_reducible refine (smG_any _ _ _ _ _ _ w12 vhR_12.out RG_12.out).mono ?_
                rintro e w13 ⟨hb, t1, rfl, ht1⟩
                have S_13 := Lib.hid (S_12.out.below hb)
                have LN_13 := Lib.hid (LN_12.out.below hb LN_12.out.lt)
                have RG_13 := Lib.hid (RG_12.out.below hb)
                have RA_13 := Lib.hid (RA_12.out.below hb)
                have RE_13 := Lib.hid (RE_12.out.below hb)
                have LA_13 := Lib.hid (LA_12.out.below hb LA_12.out.lt)
                have vhR_13 := Lib.hid (vhR_12.out.below hb)
                clear hb
                cases t1
                · obtain ⟨n0, n1, n2, n3, n4, n5, n6, n7, n8, n9, n10⟩ := LN_13.out.cells11
                  obtain ⟨a0, a1, a2, a3, a4, a5, a6, a7, a8, a9, a10⟩ := LA_13.out.cells11
                  have d1 : decide ((ep : Int) < (q.f.ep : Int)) = false := by simp; exact ele
                  have d1b : decide (ep < q.f.ep) = false := decide_eq_false (Nat.not_lt.2 ele)
                  have SD := Lib.hid (S_13.out.below (Below.refl w13.heap.size w13).drew)
                  have hw : IntKind.i64.wrap ((q.E.length : Int) + 1) = (q.E.length : Int) + 1 := IntWalk.i64_in _ (by have := HEL.out; omega)
                  have fE : (((q.E.length + 1 : Nat) : Int) == (q.E.length : Int) + 1) = true := by simp
                  go_wp2_with fail
                  refine wp_region_noPanic ?_
                  refine wp_region_held_drew (S := fun W => Lies W w5.heap.size 55 #[.int .i64 7, .int .u32 (ep : Int), .int .u32 0, .int .u64 0, .int .u64 0, .int .u32 (x.o : Int), .int .i64 x.s, .bool x.u, .int .i64 0, .slice none 0 0, .slice A2 (askD x).length c2] ∧ Lies W w10.heap.size 55 #[.int .i64 8, .int .u32 (ep : Int), .int .u32 0, .int .u64 0, .int .u64 0, .int .u32 (x.o : Int), .int .i64 x.s, .bool x.u, .int .i64 v, .slice none 0 0, .slice A4 r.length c4]) (by kernel_rfl) (⟨LN_13.out, LA_13.out⟩) (fun hH0 => ?_)
                  refine Fe.any_take 0 75 ?vt40 rfl rfl (by kernel_rfl) (by kernel_rfl) (by kernel_rfl) (fun _ _ _ h => h) (by rfl) ?ht40 hH0 ?rt40
                  case ht40 => ((intro W hSw); obtain ⟨n0, n1, n2, n3, n4, n5, n6, n7, n8, n9, n10⟩ := hSw.1.cells11; obtain ⟨a0, a1, a2, a3, a4, a5, a6, a7, a8, a9, a10⟩ := hSw.2.cells11; go_simp; (try with_reducible rfl))
                  try simp only [Act.put, List.setIfInBounds_toArray, List.set_cons_zero, List.set_cons_succ]
                  refine Fe.any_take 1 76 ?vt41 rfl rfl (by kernel_rfl) (by kernel_rfl) (by kernel_rfl) (fun _ _ _ h => h) (by rfl) ?ht41 hH0 ?rt41
                  case ht41 => ((intro W hSw); obtain ⟨n0, n1, n2, n3, n4, n5, n6, n7, n8, n9, n10⟩ := hSw.1.cells11; obtain ⟨a0, a1, a2, a3, a4, a5, a6, a7, a8, a9, a10⟩ := hSw.2.cells11; go_simp; (try with_reducible rfl))
                  try simp only [Act.put, List.setIfInBounds_toArray, List.set_cons_zero, List.set_cons_succ]
                  refine Fe.any_take 2 77 ?vt42 rfl rfl (by kernel_rfl) (by kernel_rfl) (by kernel_rfl) (fun _ _ _ h => h) (by rfl) ?ht42 hH0 ?rt42
                  case ht42 => ((intro W hSw); obtain ⟨n0, n1, n2, n3, n4, n5, n6, n7, n8, n9, n10⟩ := hSw.1.cells11; obtain ⟨a0, a1, a2, a3, a4, a5, a6, a7, a8, a9, a10⟩ := hSw.2.cells11; go_simp; (try with_reducible rfl))
                  try simp only [Act.put, List.setIfInBounds_toArray, List.set_cons_zero, List.set_cons_succ]
                  refine Fe.any_take 3 78 ?vt43 rfl rfl (by kernel_rfl) (by kernel_rfl) (by kernel_rfl) (fun _ _ _ h => h) (by rfl) ?ht43 hH0 ?rt43
                  case ht43 => ((intro W hSw); obtain ⟨n0, n1, n2, n3, n4, n5, n6, n7, n8, n9, n10⟩ := hSw.1.cells11; obtain ⟨a0, a1, a2, a3, a4, a5, a6, a7, a8, a9, a10⟩ := hSw.2.cells11; go_simp; (try with_reducible rfl))
                  try simp only [Act.put, List.setIfInBounds_toArray, List.set_cons_zero, List.set_cons_succ]
                  refine Fe.any_take 4 79 ?vt44 rfl rfl (by kernel_rfl) (by kernel_rfl) (by kernel_rfl) (fun _ _ _ h => h) (by rfl) ?ht44 hH0 ?rt44
                  case ht44 => ((intro W hSw); obtain ⟨n0, n1, n2, n3, n4, n5, n6, n7, n8, n9, n10⟩ := hSw.1.cells11; obtain ⟨a0, a1, a2, a3, a4, a5, a6, a7, a8, a9, a10⟩ := hSw.2.cells11; go_simp; (try with_reducible rfl))
                  try simp only [Act.put, List.setIfInBounds_toArray, List.set_cons_zero, List.set_cons_succ]
                  refine Fe.any_take 5 80 ?vt45 rfl rfl (by kernel_rfl) (by kernel_rfl) (by kernel_rfl) (fun _ _ _ h => h) (by rfl) ?ht45 hH0 ?rt45
                  case ht45 => ((intro W hSw); obtain ⟨n0, n1, n2, n3, n4, n5, n6, n7, n8, n9, n10⟩ := hSw.1.cells11; obtain ⟨a0, a1, a2, a3, a4, a5, a6, a7, a8, a9, a10⟩ := hSw.2.cells11; go_simp; (try with_reducible rfl))
                  try simp only [Act.put, List.setIfInBounds_toArray, List.set_cons_zero, List.set_cons_succ]
                  refine Fe.any_take 6 81 ?vt46 rfl rfl (by kernel_rfl) (by kernel_rfl) (by kernel_rfl) (fun _ _ _ h => h) (by rfl) ?ht46 hH0 ?rt46
                  case ht46 => ((intro W hSw); obtain ⟨n0, n1, n2, n3, n4, n5, n6, n7, n8, n9, n10⟩ := hSw.1.cells11; obtain ⟨a0, a1, a2, a3, a4, a5, a6, a7, a8, a9, a10⟩ := hSw.2.cells11; go_simp; (try with_reducible rfl))
                  try simp only [Act.put, List.setIfInBounds_toArray, List.set_cons_zero, List.set_cons_succ]
                  refine Fe.any_take 8 83 ?vt47 rfl rfl (by kernel_rfl) (by kernel_rfl) (by kernel_rfl) (fun _ _ _ h => h) (by rfl) ?ht47 hH0 ?rt47
                  case ht47 => ((intro W hSw); obtain ⟨n0, n1, n2, n3, n4, n5, n6, n7, n8, n9, n10⟩ := hSw.1.cells11; obtain ⟨a0, a1, a2, a3, a4, a5, a6, a7, a8, a9, a10⟩ := hSw.2.cells11; go_simp; (try with_reducible rfl))
                  try simp only [Act.put, List.setIfInBounds_toArray, List.set_cons_zero, List.set_cons_succ]
                  refine wpAnyH_ready (rs := [7, 9]) (by kernel_rfl) (by simp) ?_
                  refine AllReadyH.cons rfl (fun K hK => ?ord1) (AllReadyH.cons rfl (fun K hK => ?ord2) AllReadyH.nil)
                  case ord1 =>
                    as_aux_lemma =>
                      go_simp
                      go_at_call 26
                      with_reducible refine (cw_epoch SD.out).mono ?_
                      rintro e _ ⟨rfl, rfl⟩
                      rw [eep]
                      refine hK.out _ _ (⟨LN_13.out, LA_13.out⟩) (fun hH1 => ?_)
                      clear hK K hH0
                      try simp only [Act.put, List.setIfInBounds_toArray, List.set_cons_zero, List.set_cons_succ]
                      refine Fe.any_take 9 84 ?vt48 rfl rfl (by kernel_rfl) (by kernel_rfl) (by kernel_rfl) (fun _ _ _ h => h) (by rfl) ?ht48 hH1 ?rt48
                      case ht48 => ((intro W hSw); obtain ⟨n0, n1, n2, n3, n4, n5, n6, n7, n8, n9, n10⟩ := hSw.1.cells11; obtain ⟨a0, a1, a2, a3, a4, a5, a6, a7, a8, a9, a10⟩ := hSw.2.cells11; go_simp; (try with_reducible rfl))
                      try simp only [Act.put, List.setIfInBounds_toArray, List.set_cons_zero, List.set_cons_succ]
                      refine Fe.any_take 10 85 ?vt49 rfl rfl (by kernel_rfl) (by kernel_rfl) (by kernel_rfl) (fun _ _ _ h => h) (by rfl) ?ht49 hH1 ?rt49
                      case ht49 => ((intro W hSw); obtain ⟨n0, n1, n2, n3, n4, n5, n6, n7, n8, n9, n10⟩ := hSw.1.cells11; obtain ⟨a0, a1, a2, a3, a4, a5, a6, a7, a8, a9, a10⟩ := hSw.2.cells11; go_simp; (try with_reducible rfl))
                      try simp only [Act.put, List.setIfInBounds_toArray, List.set_cons_zero, List.set_cons_succ]
                      refine Fe.any_take 11 86 ?vt50 rfl rfl (by kernel_rfl) (by kernel_rfl) (by kernel_rfl) (fun _ _ _ h => h) (by rfl) ?ht50 hH1 ?rt50
                      case ht50 => ((intro W hSw); obtain ⟨n0, n1, n2, n3, n4, n5, n6, n7, n8, n9, n10⟩ := hSw.1.cells11; obtain ⟨a0, a1, a2, a3, a4, a5, a6, a7, a8, a9, a10⟩ := hSw.2.cells11; go_simp; (try with_reducible rfl))
                      try simp only [Act.put, List.setIfInBounds_toArray, List.set_cons_zero, List.set_cons_succ]
                      refine Fe.any_take 12 87 ?vt51 rfl rfl (by kernel_rfl) (by kernel_rfl) (by kernel_rfl) (fun _ _ _ h => h) (by rfl) ?ht51 hH1 ?rt51
                      case ht51 => ((intro W hSw); obtain ⟨n0, n1, n2, n3, n4, n5, n6, n7, n8, n9, n10⟩ := hSw.1.cells11; obtain ⟨a0, a1, a2, a3, a4, a5, a6, a7, a8, a9, a10⟩ := hSw.2.cells11; go_simp; (try with_reducible rfl))
                      try simp only [Act.put, List.setIfInBounds_toArray, List.set_cons_zero, List.set_cons_succ]
                      refine Fe.any_take 13 88 ?vt52 rfl rfl (by kernel_rfl) (by kernel_rfl) (by kernel_rfl) (fun _ _ _ h => h) (by rfl) ?ht52 hH1 ?rt52
                      case ht52 => ((intro W hSw); obtain ⟨n0, n1, n2, n3, n4, n5, n6, n7, n8, n9, n10⟩ := hSw.1.cells11; obtain ⟨a0, a1, a2, a3, a4, a5, a6, a7, a8, a9, a10⟩ := hSw.2.cells11; go_simp; (try with_reducible rfl))
                      try simp only [Act.put, List.setIfInBounds_toArray, List.set_cons_zero, List.set_cons_succ]
                      refine Fe.any_take 14 89 ?vt53 rfl rfl (by kernel_rfl) (by kernel_rfl) (by kernel_rfl) (fun _ _ _ h => h) (by rfl) ?ht53 hH1 ?rt53
                      case ht53 => ((intro W hSw); obtain ⟨n0, n1, n2, n3, n4, n5, n6, n7, n8, n9, n10⟩ := hSw.1.cells11; obtain ⟨a0, a1, a2, a3, a4, a5, a6, a7, a8, a9, a10⟩ := hSw.2.cells11; go_simp; (try with_reducible rfl))
                      try simp only [Act.put, List.setIfInBounds_toArray, List.set_cons_zero, List.set_cons_succ]
                      refine Fe.any_take 15 90 ?vt54 rfl rfl (by kernel_rfl) (by kernel_rfl) (by kernel_rfl) (fun _ _ _ h => h) (by rfl) ?ht54 hH1 ?rt54
                      case ht54 => ((intro W hSw); obtain ⟨n0, n1, n2, n3, n4, n5, n6, n7, n8, n9, n10⟩ := hSw.1.cells11; obtain ⟨a0, a1, a2, a3, a4, a5, a6, a7, a8, a9, a10⟩ := hSw.2.cells11; go_simp; (try with_reducible rfl))
                      try simp only [Act.put, List.setIfInBounds_toArray, List.set_cons_zero, List.set_cons_succ]
                      refine Fe.any_take 16 91 ?vt55 rfl rfl (by kernel_rfl) (by kernel_rfl) (by kernel_rfl) (fun _ _ _ h => h) (by rfl) ?ht55 hH1 ?rt55
                      case ht55 => ((intro W hSw); obtain ⟨n0, n1, n2, n3, n4, n5, n6, n7, n8, n9, n10⟩ := hSw.1.cells11; obtain ⟨a0, a1, a2, a3, a4, a5, a6, a7, a8, a9, a10⟩ := hSw.2.cells11; go_simp; (try with_reducible rfl))
                      try simp only [Act.put, List.setIfInBounds_toArray, List.set_cons_zero, List.set_cons_succ]
                      refine Fe.any_take 17 92 ?vt56 rfl rfl (by kernel_rfl) (by kernel_rfl) (by kernel_rfl) (fun _ _ _ h => h) (by rfl) ?ht56 hH1 ?rt56
                      case ht56 => ((intro W hSw); obtain ⟨n0, n1, n2, n3, n4, n5, n6, n7, n8, n9, n10⟩ := hSw.1.cells11; obtain ⟨a0, a1, a2, a3, a4, a5, a6, a7, a8, a9, a10⟩ := hSw.2.cells11; go_simp; (try with_reducible rfl))
                      try simp only [Act.put, List.setIfInBounds_toArray, List.set_cons_zero, List.set_cons_succ]
                      refine Fe.any_take 18 93 ?vt57 rfl rfl (by kernel_rfl) (by kernel_rfl) (by kernel_rfl) (fun _ _ _ h => h) (by rfl) ?ht57 hH1 ?rt57
                      case ht57 => ((intro W hSw); obtain ⟨n0, n1, n2, n3, n4, n5, n6, n7, n8, n9, n10⟩ := hSw.1.cells11; obtain ⟨a0, a1, a2, a3, a4, a5, a6, a7, a8, a9, a10⟩ := hSw.2.cells11; go_simp; (try with_reducible rfl))
                      try simp only [Act.put, List.setIfInBounds_toArray, List.set_cons_zero, List.set_cons_succ]
                      refine Fe.any_take 19 94 ?vt58 rfl rfl (by kernel_rfl) (by kernel_rfl) (by kernel_rfl) (fun _ _ _ h => h) (by rfl) ?ht58 hH1 ?rt58
                      case ht58 => ((intro W hSw); obtain ⟨n0, n1, n2, n3, n4, n5, n6, n7, n8, n9, n10⟩ := hSw.1.cells11; obtain ⟨a0, a1, a2, a3, a4, a5, a6, a7, a8, a9, a10⟩ := hSw.2.cells11; go_simp; (try with_reducible rfl))
                      try simp only [Act.put, List.setIfInBounds_toArray, List.set_cons_zero, List.set_cons_succ]
                      refine Fe.any_take 20 95 ?vt59 rfl rfl (by kernel_rfl) (by kernel_rfl) (by kernel_rfl) (fun _ _ _ h => h) (by rfl) ?ht59 hH1 ?rt59
                      case ht59 => ((intro W hSw); obtain ⟨n0, n1, n2, n3, n4, n5, n6, n7, n8, n9, n10⟩ := hSw.1.cells11; obtain ⟨a0, a1, a2, a3, a4, a5, a6, a7, a8, a9, a10⟩ := hSw.2.cells11; go_simp; (try with_reducible rfl))
                      try simp only [Act.put, List.setIfInBounds_toArray, List.set_cons_zero, List.set_cons_succ]
                      refine Fe.any_take 21 96 ?vt60 rfl rfl (by kernel_rfl) (by kernel_rfl) (by kernel_rfl) (fun _ _ _ h => h) (by rfl) ?ht60 hH1 ?rt60
                      case ht60 => ((intro W hSw); obtain ⟨n0, n1, n2, n3, n4, n5, n6, n7, n8, n9, n10⟩ := hSw.1.cells11; obtain ⟨a0, a1, a2, a3, a4, a5, a6, a7, a8, a9, a10⟩ := hSw.2.cells11; go_simp; (try with_reducible rfl))
                      try simp only [Act.put, List.setIfInBounds_toArray, List.set_cons_zero, List.set_cons_succ]
                      refine Fe.any_take 22 97 ?vt61 rfl rfl (by kernel_rfl) (by kernel_rfl) (by kernel_rfl) (fun _ _ _ h => h) (by rfl) ?ht61 hH1 ?rt61
                      case ht61 => ((intro W hSw); obtain ⟨n0, n1, n2, n3, n4, n5, n6, n7, n8, n9, n10⟩ := hSw.1.cells11; obtain ⟨a0, a1, a2, a3, a4, a5, a6, a7, a8, a9, a10⟩ := hSw.2.cells11; go_simp; (try with_reducible rfl))
                      try simp only [Act.put, List.setIfInBounds_toArray, List.set_cons_zero, List.set_cons_succ]
                      refine Fe.any_take 25 100 ?vt62 rfl rfl (by kernel_rfl) (by kernel_rfl) (by kernel_rfl) (fun _ _ _ h => h) (by rfl) ?ht62 hH1 ?rt62
                      case ht62 => ((intro W hSw); obtain ⟨n0, n1, n2, n3, n4, n5, n6, n7, n8, n9, n10⟩ := hSw.1.cells11; obtain ⟨a0, a1, a2, a3, a4, a5, a6, a7, a8, a9, a10⟩ := hSw.2.cells11; go_simp; (try with_reducible rfl))
                      try simp only [Act.put, List.setIfInBounds_toArray, List.set_cons_zero, List.set_cons_succ]
                      refine Fe.any_take 26 101 ?vt63 rfl rfl (by kernel_rfl) (by kernel_rfl) (by kernel_rfl) (fun _ _ _ h => h) (by rfl) ?ht63 hH1 ?rt63
                      case ht63 => ((intro W hSw); obtain ⟨n0, n1, n2, n3, n4, n5, n6, n7, n8, n9, n10⟩ := hSw.1.cells11; obtain ⟨a0, a1, a2, a3, a4, a5, a6, a7, a8, a9, a10⟩ := hSw.2.cells11; go_simp; (try with_reducible rfl))
                      try simp only [Act.put, List.setIfInBounds_toArray, List.set_cons_zero, List.set_cons_succ]
                      refine Fe.any_take 27 102 ?vt64 rfl rfl (by kernel_rfl) (by kernel_rfl) (by kernel_rfl) (fun _ _ _ h => h) (by rfl) ?ht64 hH1 ?rt64
                      case ht64 => ((intro W hSw); obtain ⟨n0, n1, n2, n3, n4, n5, n6, n7, n8, n9, n10⟩ := hSw.1.cells11; obtain ⟨a0, a1, a2, a3, a4, a5, a6, a7, a8, a9, a10⟩ := hSw.2.cells11; go_simp; (try with_reducible rfl))
                      try simp only [Act.put, List.setIfInBounds_toArray, List.set_cons_zero, List.set_cons_succ]
                      refine wpAnyH_ready (rs := [23]) (by kernel_rfl) (by simp) ?_
                      refine AllReadyH.cons rfl (fun K hK => ?_) AllReadyH.nil
                      go_simp
                      go_at_call 29
                      with_reducible refine (cw_effects SD.out).mono ?_
                      rintro e w30 ⟨vk, rfl, hr, hb⟩
                      obtain ⟨Ak, ck, rfl, -, -⟩ := F_row hr
                      rw [hd]
                      have SF := Lib.hid (SD.out.below hb)
                      have LNF := Lib.hid ((LN_13.out).below (Below.trans (Below.refl w13.heap.size w13).drew hb) (LN_13.out).lt)
                      have LAF := Lib.hid ((LA_13.out).below (Below.trans (Below.refl w13.heap.size w13).drew hb) (LA_13.out).lt)
                      clear hr hb
                      refine hK.out _ _ (⟨LNF.out, LAF.out⟩) (fun hH9 => ?_)
                      clear hK K hH1
                      try simp only [Act.put, List.setIfInBounds_toArray, List.set_cons_zero, List.set_cons_succ]
                      refine Fe.any_take 24 99 ?vt65 rfl rfl (by kernel_rfl) (by kernel_rfl) (by kernel_rfl) (fun _ _ _ h => h) (by rfl) ?ht65 hH9 ?rt65
                      case ht65 => ((intro W hSw); obtain ⟨n0, n1, n2, n3, n4, n5, n6, n7, n8, n9, n10⟩ := hSw.1.cells11; obtain ⟨a0, a1, a2, a3, a4, a5, a6, a7, a8, a9, a10⟩ := hSw.2.cells11; go_simp; (try with_reducible rfl))
                      try simp only [Act.put, List.setIfInBounds_toArray, List.set_cons_zero, List.set_cons_succ]
                      refine Fe.any_take 28 103 ?vt66 rfl rfl (by kernel_rfl) (by kernel_rfl) (by kernel_rfl) (fun _ _ _ h => h) (by rfl) ?ht66 hH9 ?rt66
                      case ht66 => ((intro W hSw); obtain ⟨n0, n1, n2, n3, n4, n5, n6, n7, n8, n9, n10⟩ := hSw.1.cells11; obtain ⟨a0, a1, a2, a3, a4, a5, a6, a7, a8, a9, a10⟩ := hSw.2.cells11; go_simp; (try with_reducible rfl))
                      try simp only [Act.put, List.setIfInBounds_toArray, List.set_cons_zero, List.set_cons_succ]
                      refine Fe.any_take 29 104 ?vt67 rfl rfl (by kernel_rfl) (by kernel_rfl) (by kernel_rfl) (fun _ _ _ h => h) (by rfl) ?ht67 hH9 ?rt67
                      case ht67 => ((intro W hSw); obtain ⟨n0, n1, n2, n3, n4, n5, n6, n7, n8, n9, n10⟩ := hSw.1.cells11; obtain ⟨a0, a1, a2, a3, a4, a5, a6, a7, a8, a9, a10⟩ := hSw.2.cells11; go_simp; (try with_reducible rfl))
                      try simp only [Act.put, List.setIfInBounds_toArray, List.set_cons_zero, List.set_cons_succ]
                      refine Fe.any_take 30 105 ?vt68 rfl rfl (by kernel_rfl) (by kernel_rfl) (by kernel_rfl) (fun _ _ _ h => h) (by rfl) ?ht68 hH9 ?rt68
                      case ht68 => ((intro W hSw); obtain ⟨n0, n1, n2, n3, n4, n5, n6, n7, n8, n9, n10⟩ := hSw.1.cells11; obtain ⟨a0, a1, a2, a3, a4, a5, a6, a7, a8, a9, a10⟩ := hSw.2.cells11; go_simp; (try with_reducible rfl))
                      try simp only [Act.put, List.setIfInBounds_toArray, List.set_cons_zero, List.set_cons_succ]
                      clear hH9
                      refine wpAnyH_done (by kernel_rfl) ?_ _
                      refine NoPanic.normal ?_
                      go_wp2
                      go_roundw
                      case rel => exact ⟨j + 1, b2, q2, by omega, by omega, by go_num, SF.out⟩
                      case measure => simp [intOf]; omega
                  case ord2 =>
                    as_aux_lemma =>
                      obtain ⟨n0, n1, n2, n3, n4, n5, n6, n7, n8, n9, n10⟩ := LN_13.out.cells11
                      go_simp
                      refine hK.out _ _ (⟨LN_13.out, LA_13.out⟩) (fun hH1 => ?_)
                      clear hK K hH0 n0 n1 n2 n3 n4 n5 n6 n7 n8 n9 n10
                      try simp only [Act.put, List.setIfInBounds_toArray, List.set_cons_zero, List.set_cons_succ]
                      refine wpAnyH_ready (rs := [7]) (by kernel_rfl) (by simp) ?_
                      refine AllReadyH.cons rfl (fun K hK => ?_) AllReadyH.nil
                      go_simp
                      go_at_call 26
                      with_reducible refine (cw_epoch SD.out).mono ?_
                      rintro e _ ⟨rfl, rfl⟩
                      rw [eep]
                      refine hK.out _ _ (⟨LN_13.out, LA_13.out⟩) (fun hH2 => ?_)
                      clear hK K hH1
                      try simp only [Act.put, List.setIfInBounds_toArray, List.set_cons_zero, List.set_cons_succ]
                      refine Fe.any_take 10 85 ?vt69 rfl rfl (by kernel_rfl) (by kernel_rfl) (by kernel_rfl) (fun _ _ _ h => h) (by rfl) ?ht69 hH2 ?rt69
                      case ht69 => ((intro W hSw); obtain ⟨n0, n1, n2, n3, n4, n5, n6, n7, n8, n9, n10⟩ := hSw.1.cells11; obtain ⟨a0, a1, a2, a3, a4, a5, a6, a7, a8, a9, a10⟩ := hSw.2.cells11; go_simp; (try with_reducible rfl))
                      try simp only [Act.put, List.setIfInBounds_toArray, List.set_cons_zero, List.set_cons_succ]
                      refine Fe.any_take 11 86 ?vt70 rfl rfl (by kernel_rfl) (by kernel_rfl) (by kernel_rfl) (fun _ _ _ h => h) (by rfl) ?ht70 hH2 ?rt70
                      case ht70 => ((intro W hSw); obtain ⟨n0, n1, n2, n3, n4, n5, n6, n7, n8, n9, n10⟩ := hSw.1.cells11; obtain ⟨a0, a1, a2, a3, a4, a5, a6, a7, a8, a9, a10⟩ := hSw.2.cells11; go_simp; (try with_reducible rfl))
                      try simp only [Act.put, List.setIfInBounds_toArray, List.set_cons_zero, List.set_cons_succ]
                      refine Fe.any_take 12 87 ?vt71 rfl rfl (by kernel_rfl) (by kernel_rfl) (by kernel_rfl) (fun _ _ _ h => h) (by rfl) ?ht71 hH2 ?rt71
                      case ht71 => ((intro W hSw); obtain ⟨n0, n1, n2, n3, n4, n5, n6, n7, n8, n9, n10⟩ := hSw.1.cells11; obtain ⟨a0, a1, a2, a3, a4, a5, a6, a7, a8, a9, a10⟩ := hSw.2.cells11; go_simp; (try with_reducible rfl))
                      try simp only [Act.put, List.setIfInBounds_toArray, List.set_cons_zero, List.set_cons_succ]
                      refine Fe.any_take 13 88 ?vt72 rfl rfl (by kernel_rfl) (by kernel_rfl) (by kernel_rfl) (fun _ _ _ h => h) (by rfl) ?ht72 hH2 ?rt72
                      case ht72 => ((intro W hSw); obtain ⟨n0, n1, n2, n3, n4, n5, n6, n7, n8, n9, n10⟩ := hSw.1.cells11; obtain ⟨a0, a1, a2, a3, a4, a5, a6, a7, a8, a9, a10⟩ := hSw.2.cells11; go_simp; (try with_reducible rfl))
                      try simp only [Act.put, List.setIfInBounds_toArray, List.set_cons_zero, List.set_cons_succ]
                      refine Fe.any_take 14 89 ?vt73 rfl rfl (by kernel_rfl) (by kernel_rfl) (by kernel_rfl) (fun _ _ _ h => h) (by rfl) ?ht73 hH2 ?rt73
                      case ht73 => ((intro W hSw); obtain ⟨n0, n1, n2, n3, n4, n5, n6, n7, n8, n9, n10⟩ := hSw.1.cells11; obtain ⟨a0, a1, a2, a3, a4, a5, a6, a7, a8, a9, a10⟩ := hSw.2.cells11; go_simp; (try with_reducible rfl))
                      try simp only [Act.put, List.setIfInBounds_toArray, List.set_cons_zero, List.set_cons_succ]
                      refine Fe.any_take 15 90 ?vt74 rfl rfl (by kernel_rfl) (by kernel_rfl) (by kernel_rfl) (fun _ _ _ h => h) (by rfl) ?ht74 hH2 ?rt74
                      case ht74 => ((intro W hSw); obtain ⟨n0, n1, n2, n3, n4, n5, n6, n7, n8, n9, n10⟩ := hSw.1.cells11; obtain ⟨a0, a1, a2, a3, a4, a5, a6, a7, a8, a9, a10⟩ := hSw.2.cells11; go_simp; (try with_reducible rfl))
                      try simp only [Act.put, List.setIfInBounds_toArray, List.set_cons_zero, List.set_cons_succ]
                      refine Fe.any_take 16 91 ?vt75 rfl rfl (by kernel_rfl) (by kernel_rfl) (by kernel_rfl) (fun _ _ _ h => h) (by rfl) ?ht75 hH2 ?rt75
                      case ht75 => ((intro W hSw); obtain ⟨n0, n1, n2, n3, n4, n5, n6, n7, n8, n9, n10⟩ := hSw.1.cells11; obtain ⟨a0, a1, a2, a3, a4, a5, a6, a7, a8, a9, a10⟩ := hSw.2.cells11; go_simp; (try with_reducible rfl))
                      try simp only [Act.put, List.setIfInBounds_toArray, List.set_cons_zero, List.set_cons_succ]
                      refine Fe.any_take 17 92 ?vt76 rfl rfl (by kernel_rfl) (by kernel_rfl) (by kernel_rfl) (fun _ _ _ h => h) (by rfl) ?ht76 hH2 ?rt76
                      case ht76 => ((intro W hSw); obtain ⟨n0, n1, n2, n3, n4, n5, n6, n7, n8, n9, n10⟩ := hSw.1.cells11; obtain ⟨a0, a1, a2, a3, a4, a5, a6, a7, a8, a9, a10⟩ := hSw.2.cells11; go_simp; (try with_reducible rfl))
                      try simp only [Act.put, List.setIfInBounds_toArray, List.set_cons_zero, List.set_cons_succ]
                      refine Fe.any_take 18 93 ?vt77 rfl rfl (by kernel_rfl) (by kernel_rfl) (by kernel_rfl) (fun _ _ _ h => h) (by rfl) ?ht77 hH2 ?rt77
                      case ht77 => ((intro W hSw); obtain ⟨n0, n1, n2, n3, n4, n5, n6, n7, n8, n9, n10⟩ := hSw.1.cells11; obtain ⟨a0, a1, a2, a3, a4, a5, a6, a7, a8, a9, a10⟩ := hSw.2.cells11; go_simp; (try with_reducible rfl))
                      try simp only [Act.put, List.setIfInBounds_toArray, List.set_cons_zero, List.set_cons_succ]
                      refine Fe.any_take 19 94 ?vt78 rfl rfl (by kernel_rfl) (by kernel_rfl) (by kernel_rfl) (fun _ _ _ h => h) (by rfl) ?ht78 hH2 ?rt78
                      case ht78 => ((intro W hSw); obtain ⟨n0, n1, n2, n3, n4, n5, n6, n7, n8, n9, n10⟩ := hSw.1.cells11; obtain ⟨a0, a1, a2, a3, a4, a5, a6, a7, a8, a9, a10⟩ := hSw.2.cells11; go_simp; (try with_reducible rfl))
                      try simp only [Act.put, List.setIfInBounds_toArray, List.set_cons_zero, List.set_cons_succ]
                      refine Fe.any_take 20 95 ?vt79 rfl rfl (by kernel_rfl) (by kernel_rfl) (by kernel_rfl) (fun _ _ _ h => h) (by rfl) ?ht79 hH2 ?rt79
                      case ht79 => ((intro W hSw); obtain ⟨n0, n1, n2, n3, n4, n5, n6, n7, n8, n9, n10⟩ := hSw.1.cells11; obtain ⟨a0, a1, a2, a3, a4, a5, a6, a7, a8, a9, a10⟩ := hSw.2.cells11; go_simp; (try with_reducible rfl))
                      try simp only [Act.put, List.setIfInBounds_toArray, List.set_cons_zero, List.set_cons_succ]
                      refine Fe.any_take 21 96 ?vt80 rfl rfl (by kernel_rfl) (by kernel_rfl) (by kernel_rfl) (fun _ _ _ h => h) (by rfl) ?ht80 hH2 ?rt80
                      case ht80 => ((intro W hSw); obtain ⟨n0, n1, n2, n3, n4, n5, n6, n7, n8, n9, n10⟩ := hSw.1.cells11; obtain ⟨a0, a1, a2, a3, a4, a5, a6, a7, a8, a9, a10⟩ := hSw.2.cells11; go_simp; (try with_reducible rfl))
                      try simp only [Act.put, List.setIfInBounds_toArray, List.set_cons_zero, List.set_cons_succ]
                      refine Fe.any_take 22 97 ?vt81 rfl rfl (by kernel_rfl) (by kernel_rfl) (by kernel_rfl) (fun _ _ _ h => h) (by rfl) ?ht81 hH2 ?rt81
                      case ht81 => ((intro W hSw); obtain ⟨n0, n1, n2, n3, n4, n5, n6, n7, n8, n9, n10⟩ := hSw.1.cells11; obtain ⟨a0, a1, a2, a3, a4, a5, a6, a7, a8, a9, a10⟩ := hSw.2.cells11; go_simp; (try with_reducible rfl))
                      try simp only [Act.put, List.setIfInBounds_toArray, List.set_cons_zero, List.set_cons_succ]
                      refine Fe.any_take 25 100 ?vt82 rfl rfl (by kernel_rfl) (by kernel_rfl) (by kernel_rfl) (fun _ _ _ h => h) (by rfl) ?ht82 hH2 ?rt82
                      case ht82 => ((intro W hSw); obtain ⟨n0, n1, n2, n3, n4, n5, n6, n7, n8, n9, n10⟩ := hSw.1.cells11; obtain ⟨a0, a1, a2, a3, a4, a5, a6, a7, a8, a9, a10⟩ := hSw.2.cells11; go_simp; (try with_reducible rfl))
                      try simp only [Act.put, List.setIfInBounds_toArray, List.set_cons_zero, List.set_cons_succ]
                      refine Fe.any_take 26 101 ?vt83 rfl rfl (by kernel_rfl) (by kernel_rfl) (by kernel_rfl) (fun _ _ _ h => h) (by rfl) ?ht83 hH2 ?rt83
                      case ht83 => ((intro W hSw); obtain ⟨n0, n1, n2, n3, n4, n5, n6, n7, n8, n9, n10⟩ := hSw.1.cells11; obtain ⟨a0, a1, a2, a3, a4, a5, a6, a7, a8, a9, a10⟩ := hSw.2.cells11; go_simp; (try with_reducible rfl))
                      try simp only [Act.put, List.setIfInBounds_toArray, List.set_cons_zero, List.set_cons_succ]
                      refine Fe.any_take 27 102 ?vt84 rfl rfl (by kernel_rfl) (by kernel_rfl) (by kernel_rfl) (fun _ _ _ h => h) (by rfl) ?ht84 hH2 ?rt84
                      case ht84 => ((intro W hSw); obtain ⟨n0, n1, n2, n3, n4, n5, n6, n7, n8, n9, n10⟩ := hSw.1.cells11; obtain ⟨a0, a1, a2, a3, a4, a5, a6, a7, a8, a9, a10⟩ := hSw.2.cells11; go_simp; (try with_reducible rfl))
                      try simp only [Act.put, List.setIfInBounds_toArray, List.set_cons_zero, List.set_cons_succ]
                      refine wpAnyH_ready (rs := [23]) (by kernel_rfl) (by simp) ?_
                      refine AllReadyH.cons rfl (fun K hK => ?_) AllReadyH.nil
                      go_simp
                      go_at_call 29
                      with_reducible refine (cw_effects SD.out).mono ?_
                      rintro e w30 ⟨vk, rfl, hr, hb⟩
                      obtain ⟨Ak, ck, rfl, -, -⟩ := F_row hr
                      rw [hd]
                      have SF := Lib.hid (SD.out.below hb)
                      have LNF := Lib.hid ((LN_13.out).below (Below.trans (Below.refl w13.heap.size w13).drew hb) (LN_13.out).lt)
                      have LAF := Lib.hid ((LA_13.out).below (Below.trans (Below.refl w13.heap.size w13).drew hb) (LA_13.out).lt)
                      clear hr hb
                      refine hK.out _ _ (⟨LNF.out, LAF.out⟩) (fun hH9 => ?_)
                      clear hK K hH2
                      try simp only [Act.put, List.setIfInBounds_toArray, List.set_cons_zero, List.set_cons_succ]
                      refine Fe.any_take 24 99 ?vt85 rfl rfl (by kernel_rfl) (by kernel_rfl) (by kernel_rfl) (fun _ _ _ h => h) (by rfl) ?ht85 hH9 ?rt85
                      case ht85 => ((intro W hSw); obtain ⟨n0, n1, n2, n3, n4, n5, n6, n7, n8, n9, n10⟩ := hSw.1.cells11; obtain ⟨a0, a1, a2, a3, a4, a5, a6, a7, a8, a9, a10⟩ := hSw.2.cells11; go_simp; (try with_reducible rfl))
                      try simp only [Act.put, List.setIfInBounds_toArray, List.set_cons_zero, List.set_cons_succ]
                      refine Fe.any_take 28 103 ?vt86 rfl rfl (by kernel_rfl) (by kernel_rfl) (by kernel_rfl) (fun _ _ _ h => h) (by rfl) ?ht86 hH9 ?rt86
                      case ht86 => ((intro W hSw); obtain ⟨n0, n1, n2, n3, n4, n5, n6, n7, n8, n9, n10⟩ := hSw.1.cells11; obtain ⟨a0, a1, a2, a3, a4, a5, a6, a7, a8, a9, a10⟩ := hSw.2.cells11; go_simp; (try with_reducible rfl))
                      try simp only [Act.put, List.setIfInBounds_toArray, List.set_cons_zero, List.set_cons_succ]
                      refine Fe.any_take 29 104 ?vt87 rfl rfl (by kernel_rfl) (by kernel_rfl) (by kernel_rfl) (fun _ _ _ h => h) (by rfl) ?ht87 hH9 ?rt87
                      case ht87 => ((intro W hSw); obtain ⟨n0, n1, n2, n3, n4, n5, n6, n7, n8, n9, n10⟩ := hSw.1.cells11; obtain ⟨a0, a1, a2, a3, a4, a5, a6, a7, a8, a9, a10⟩ := hSw.2.cells11; go_simp; (try with_reducible rfl))
                      try simp only [Act.put, List.setIfInBounds_toArray, List.set_cons_zero, List.set_cons_succ]
                      refine Fe.any_take 30 105 ?vt88 rfl rfl (by kernel_rfl) (by kernel_rfl) (by kernel_rfl) (fun _ _ _ h => h) (by rfl) ?ht88 hH9 ?rt88
                      case ht88 => ((intro W hSw); obtain ⟨n0, n1, n2, n3, n4, n5, n6, n7, n8, n9, n10⟩ := hSw.1.cells11; obtain ⟨a0, a1, a2, a3, a4, a5, a6, a7, a8, a9, a10⟩ := hSw.2.cells11; go_simp; (try with_reducible rfl))
                      try simp only [Act.put, List.setIfInBounds_toArray, List.set_cons_zero, List.set_cons_succ]
                      clear hH9
                      refine wpAnyH_done (by kernel_rfl) ?_ _
                      refine NoPanic.normal ?_
                      go_wp2
                      go_roundw
                      case rel => exact ⟨j + 1, b2, q2, by omega, by omega, by go_num, SF.out⟩
                      case measure => simp [intOf]; omega
                · go_wp2_with fail
                  with_reducible refine (cw_accts S_13.out).mono ?_
                  rintro e w14 ⟨vi, rfl, hr, hb⟩
                  have S_14 := Lib.hid (S_13.out.below hb)
                  have LN_14 := Lib.hid (LN_13.out.below hb LN_13.out.lt)
                  have RG_14 := Lib.hid (RG_13.out.below hb)
                  have RA_14 := Lib.hid (RA_13.out.below hb)
                  have RE_14 := Lib.hid (RE_13.out.below hb)
                  have LA_14 := Lib.hid (LA_13.out.below hb LA_13.out.lt)
                  have vhR_14 := Lib.hid (vhR_13.out.below hb)
                  have viR_14 := Lib.hid hr
                  clear hr
                  clear hb
                  go_wp2_with fail
                  with_reducible refine (smA_any _ _ _ _ _ _ w14 viR_14.out RA_14.out).mono ?_
                  rintro e w15 ⟨hb, t2, rfl, ht2⟩
                  have S_15 := Lib.hid (S_14.out.below hb)
                  have LN_15 := Lib.hid (LN_14.out.below hb LN_14.out.lt)
                  have RG_15 := Lib.hid (RG_14.out.below hb)
                  have RA_15 := Lib.hid (RA_14.out.below hb)
                  have RE_15 := Lib.hid (RE_14.out.below hb)
                  have LA_15 := Lib.hid (LA_14.out.below hb LA_14.out.lt)
                  have vhR_15 := Lib.hid (vhR_14.out.below hb)
                  have viR_15 := Lib.hid (viR_14.out.below hb)
                  clear hb
                  cases t2
                  · obtain ⟨n0, n1, n2, n3, n4, n5, n6, n7, n8, n9, n10⟩ := LN_15.out.cells11
                    obtain ⟨a0, a1, a2, a3, a4, a5, a6, a7, a8, a9, a10⟩ := LA_15.out.cells11
                    have d1 : decide ((ep : Int) < (q.f.ep : Int)) = false := by simp; exact ele
                    have d1b : decide (ep < q.f.ep) = false := decide_eq_false (Nat.not_lt.2 ele)
                    have SD := Lib.hid (S_15.out.below (Below.refl w15.heap.size w15).drew)
                    have hw : IntKind.i64.wrap ((q.E.length : Int) + 1) = (q.E.length : Int) + 1 := IntWalk.i64_in _ (by have := HEL.out; omega)
                    have fE : (((q.E.length + 1 : Nat) : Int) == (q.E.length : Int) + 1) = true := by simp
                    go_wp2_with fail
                    refine wp_region_noPanic ?_
                    refine wp_region_held_drew (S := fun W => Lies W w5.heap.size 55 #[.int .i64 7, .int .u32 (ep : Int), .int .u32 0, .int .u64 0, .int .u64 0, .int .u32 (x.o : Int), .int .i64 x.s, .bool x.u, .int .i64 0, .slice none 0 0, .slice A2 (askD x).length c2] ∧ Lies W w10.heap.size 55 #[.int .i64 8, .int .u32 (ep : Int), .int .u32 0, .int .u64 0, .int .u64 0, .int .u32 (x.o : Int), .int .i64 x.s, .bool x.u, .int .i64 v, .slice none 0 0, .slice A4 r.length c4]) (by kernel_rfl) (⟨LN_15.out, LA_15.out⟩) (fun hH0 => ?_)
                    refine Fe.any_take 0 75 ?vt90 rfl rfl (by kernel_rfl) (by kernel_rfl) (by kernel_rfl) (fun _ _ _ h => h) (by rfl) ?ht90 hH0 ?rt90
                    case ht90 => ((intro W hSw); obtain ⟨n0, n1, n2, n3, n4, n5, n6, n7, n8, n9, n10⟩ := hSw.1.cells11; obtain ⟨a0, a1, a2, a3, a4, a5, a6, a7, a8, a9, a10⟩ := hSw.2.cells11; go_simp; (try with_reducible rfl))
                    try simp only [Act.put, List.setIfInBounds_toArray, List.set_cons_zero, List.set_cons_succ]
                    refine Fe.any_take 1 76 ?vt91 rfl rfl (by kernel_rfl) (by kernel_rfl) (by kernel_rfl) (fun _ _ _ h => h) (by rfl) ?ht91 hH0 ?rt91
                    case ht91 => ((intro W hSw); obtain ⟨n0, n1, n2, n3, n4, n5, n6, n7, n8, n9, n10⟩ := hSw.1.cells11; obtain ⟨a0, a1, a2, a3, a4, a5, a6, a7, a8, a9, a10⟩ := hSw.2.cells11; go_simp; (try with_reducible rfl))
                    try simp only [Act.put, List.setIfInBounds_toArray, List.set_cons_zero, List.set_cons_succ]
                    refine Fe.any_take 2 77 ?vt92 rfl rfl (by kernel_rfl) (by kernel_rfl) (by kernel_rfl) (fun _ _ _ h => h) (by rfl) ?ht92 hH0 ?rt92
                    case ht92 => ((intro W hSw); obtain ⟨n0, n1, n2, n3, n4, n5, n6, n7, n8, n9, n10⟩ := hSw.1.cells11; obtain ⟨a0, a1, a2, a3, a4, a5, a6, a7, a8, a9, a10⟩ := hSw.2.cells11; go_simp; (try with_reducible rfl))
                    try simp only [Act.put, List.setIfInBounds_toArray, List.set_cons_zero, List.set_cons_succ]
                    refine Fe.any_take 3 78 ?vt93 rfl rfl (by kernel_rfl) (by kernel_rfl) (by kernel_rfl) (fun _ _ _ h => h) (by rfl) ?ht93 hH0 ?rt93
                    case ht93 => ((intro W hSw); obtain ⟨n0, n1, n2, n3, n4, n5, n6, n7, n8, n9, n10⟩ := hSw.1.cells11; obtain ⟨a0, a1, a2, a3, a4, a5, a6, a7, a8, a9, a10⟩ := hSw.2.cells11; go_simp; (try with_reducible rfl))
                    try simp only [Act.put, List.setIfInBounds_toArray, List.set_cons_zero, List.set_cons_succ]
                    refine Fe.any_take 4 79 ?vt94 rfl rfl (by kernel_rfl) (by kernel_rfl) (by kernel_rfl) (fun _ _ _ h => h) (by rfl) ?ht94 hH0 ?rt94
                    case ht94 => ((intro W hSw); obtain ⟨n0, n1, n2, n3, n4, n5, n6, n7, n8, n9, n10⟩ := hSw.1.cells11; obtain ⟨a0, a1, a2, a3, a4, a5, a6, a7, a8, a9, a10⟩ := hSw.2.cells11; go_simp; (try with_reducible rfl))
                    try simp only [Act.put, List.setIfInBounds_toArray, List.set_cons_zero, List.set_cons_succ]
                    refine Fe.any_take 5 80 ?vt95 rfl rfl (by kernel_rfl) (by kernel_rfl) (by kernel_rfl) (fun _ _ _ h => h) (by rfl) ?ht95 hH0 ?rt95
                    case ht95 => ((intro W hSw); obtain ⟨n0, n1, n2, n3, n4, n5, n6, n7, n8, n9, n10⟩ := hSw.1.cells11; obtain ⟨a0, a1, a2, a3, a4, a5, a6, a7, a8, a9, a10⟩ := hSw.2.cells11; go_simp; (try with_reducible rfl))
                    try simp only [Act.put, List.setIfInBounds_toArray, List.set_cons_zero, List.set_cons_succ]
                    refine Fe.any_take 6 81 ?vt96 rfl rfl (by kernel_rfl) (by kernel_rfl) (by kernel_rfl) (fun _ _ _ h => h) (by rfl) ?ht96 hH0 ?rt96
                    case ht96 => ((intro W hSw); obtain ⟨n0, n1, n2, n3, n4, n5, n6, n7, n8, n9, n10⟩ := hSw.1.cells11; obtain ⟨a0, a1, a2, a3, a4, a5, a6, a7, a8, a9, a10⟩ := hSw.2.cells11; go_simp; (try with_reducible rfl))
                    try simp only [Act.put, List.setIfInBounds_toArray, List.set_cons_zero, List.set_cons_succ]
                    refine Fe.any_take 8 83 ?vt97 rfl rfl (by kernel_rfl) (by kernel_rfl) (by kernel_rfl) (fun _ _ _ h => h) (by rfl) ?ht97 hH0 ?rt97
                    case ht97 => ((intro W hSw); obtain ⟨n0, n1, n2, n3, n4, n5, n6, n7, n8, n9, n10⟩ := hSw.1.cells11; obtain ⟨a0, a1, a2, a3, a4, a5, a6, a7, a8, a9, a10⟩ := hSw.2.cells11; go_simp; (try with_reducible rfl))
                    try simp only [Act.put, List.setIfInBounds_toArray, List.set_cons_zero, List.set_cons_succ]
                    refine wpAnyH_ready (rs := [7, 9]) (by kernel_rfl) (by simp) ?_
                    refine AllReadyH.cons rfl (fun K hK => ?ord1) (AllReadyH.cons rfl (fun K hK => ?ord2) AllReadyH.nil)
                    case ord1 =>
                      as_aux_lemma =>
                        go_simp
                        go_at_call 26
                        with_reducible refine (cw_epoch SD.out).mono ?_
                        rintro e _ ⟨rfl, rfl⟩
                        rw [eep]
                        refine hK.out _ _ (⟨LN_15.out, LA_15.out⟩) (fun hH1 => ?_)
                        clear hK K hH0
                        try simp only [Act.put, List.setIfInBounds_toArray, List.set_cons_zero, List.set_cons_succ]
                        refine Fe.any_take 9 84 ?vt98 rfl rfl (by kernel_rfl) (by kernel_rfl) (by kernel_rfl) (fun _ _ _ h => h) (by rfl) ?ht98 hH1 ?rt98
                        case ht98 => ((intro W hSw); obtain ⟨n0, n1, n2, n3, n4, n5, n6, n7, n8, n9, n10⟩ := hSw.1.cells11; obtain ⟨a0, a1, a2, a3, a4, a5, a6, a7, a8, a9, a10⟩ := hSw.2.cells11; go_simp; (try with_reducible rfl))
                        try simp only [Act.put, List.setIfInBounds_toArray, List.set_cons_zero, List.set_cons_succ]
                        refine Fe.any_take 10 85 ?vt99 rfl rfl (by kernel_rfl) (by kernel_rfl) (by kernel_rfl) (fun _ _ _ h => h) (by rfl) ?ht99 hH1 ?rt99
                        case ht99 => ((intro W hSw); obtain ⟨n0, n1, n2, n3, n4, n5, n6, n7, n8, n9, n10⟩ := hSw.1.cells11; obtain ⟨a0, a1, a2, a3, a4, a5, a6, a7, a8, a9, a10⟩ := hSw.2.cells11; go_simp; (try with_reducible rfl))
                        try simp only [Act.put, List.setIfInBounds_toArray, List.set_cons_zero, List.set_cons_succ]
                        refine Fe.any_take 11 86 ?vt100 rfl rfl (by kernel_rfl) (by kernel_rfl) (by kernel_rfl) (fun _ _ _ h => h) (by rfl) ?ht100 hH1 ?rt100
                        case ht100 => ((intro W hSw); obtain ⟨n0, n1, n2, n3, n4, n5, n6, n7, n8, n9, n10⟩ := hSw.1.cells11; obtain ⟨a0, a1, a2, a3, a4, a5, a6, a7, a8, a9, a10⟩ := hSw.2.cells11; go_simp; (try with_reducible rfl))
                        try simp only [Act.put, List.setIfInBounds_toArray, List.set_cons_zero, List.set_cons_succ]
                        refine Fe.any_take 12 87 ?vt101 rfl rfl (by kernel_rfl) (by kernel_rfl) (by kernel_rfl) (fun _ _ _ h => h) (by rfl) ?ht101 hH1 ?rt101
                        case ht101 => ((intro W hSw); obtain ⟨n0, n1, n2, n3, n4, n5, n6, n7, n8, n9, n10⟩ := hSw.1.cells11; obtain ⟨a0, a1, a2, a3, a4, a5, a6, a7, a8, a9, a10⟩ := hSw.2.cells11; go_simp; (try with_reducible rfl))
                        try simp only [Act.put, List.setIfInBounds_toArray, List.set_cons_zero, List.set_cons_succ]
                        refine Fe.any_take 13 88 ?vt102 rfl rfl (by kernel_rfl) (by kernel_rfl) (by kernel_rfl) (fun _ _ _ h => h) (by rfl) ?ht102 hH1 ?rt102
                        case ht102 => ((intro W hSw); obtain ⟨n0, n1, n2, n3, n4, n5, n6, n7, n8, n9, n10⟩ := hSw.1.cells11; obtain ⟨a0, a1, a2, a3, a4, a5, a6, a7, a8, a9, a10⟩ := hSw.2.cells11; go_simp; (try with_reducible rfl))
                        try simp only [Act.put, List.setIfInBounds_toArray, List.set_cons_zero, List.set_cons_succ]
                        refine Fe.any_take 14 89 ?vt103 rfl rfl (by kernel_rfl) (by kernel_rfl) (by kernel_rfl) (fun _ _ _ h => h) (by rfl) ?ht103 hH1 ?rt103
                        case ht103 => ((intro W hSw); obtain ⟨n0, n1, n2, n3, n4, n5, n6, n7, n8, n9, n10⟩ := hSw.1.cells11; obtain ⟨a0, a1, a2, a3, a4, a5, a6, a7, a8, a9, a10⟩ := hSw.2.cells11; go_simp; (try with_reducible rfl))
                        try simp only [Act.put, List.setIfInBounds_toArray, List.set_cons_zero, List.set_cons_succ]
                        refine Fe.any_take 15 90 ?vt104 rfl rfl (by kernel_rfl) (by kernel_rfl) (by kernel_rfl) (fun _ _ _ h => h) (by rfl) ?ht104 hH1 ?rt104
                        case ht104 => ((intro W hSw); obtain ⟨n0, n1, n2, n3, n4, n5, n6, n7, n8, n9, n10⟩ := hSw.1.cells11; obtain ⟨a0, a1, a2, a3, a4, a5, a6, a7, a8, a9, a10⟩ := hSw.2.cells11; go_simp; (try with_reducible rfl))
                        try simp only [Act.put, List.setIfInBounds_toArray, List.set_cons_zero, List.set_cons_succ]
                        refine Fe.any_take 16 91 ?vt105 rfl rfl (by kernel_rfl) (by kernel_rfl) (by kernel_rfl) (fun _ _ _ h => h) (by rfl) ?ht105 hH1 ?rt105
                        case ht105 => ((intro W hSw); obtain ⟨n0, n1, n2, n3, n4, n5, n6, n7, n8, n9, n10⟩ := hSw.1.cells11; obtain ⟨a0, a1, a2, a3, a4, a5, a6, a7, a8, a9, a10⟩ := hSw.2.cells11; go_simp; (try with_reducible rfl))
                        try simp only [Act.put, List.setIfInBounds_toArray, List.set_cons_zero, List.set_cons_succ]
                        refine Fe.any_take 17 92 ?vt106 rfl rfl (by kernel_rfl) (by kernel_rfl) (by kernel_rfl) (fun _ _ _ h => h) (by rfl) ?ht106 hH1 ?rt106
                        case ht106 => ((intro W hSw); obtain ⟨n0, n1, n2, n3, n4, n5, n6, n7, n8, n9, n10⟩ := hSw.1.cells11; obtain ⟨a0, a1, a2, a3, a4, a5, a6, a7, a8, a9, a10⟩ := hSw.2.cells11; go_simp; (try with_reducible rfl))
                        try simp only [Act.put, List.setIfInBounds_toArray, List.set_cons_zero, List.set_cons_succ]
                        refine Fe.any_take 18 93 ?vt107 rfl rfl (by kernel_rfl) (by kernel_rfl) (by kernel_rfl) (fun _ _ _ h => h) (by rfl) ?ht107 hH1 ?rt107
                        case ht107 => ((intro W hSw); obtain ⟨n0, n1, n2, n3, n4, n5, n6, n7, n8, n9, n10⟩ := hSw.1.cells11; obtain ⟨a0, a1, a2, a3, a4, a5, a6, a7, a8, a9, a10⟩ := hSw.2.cells11; go_simp; (try with_reducible rfl))
                        try simp only [Act.put, List.setIfInBounds_toArray, List.set_cons_zero, List.set_cons_succ]
                        refine Fe.any_take 19 94 ?vt108 rfl rfl (by kernel_rfl) (by kernel_rfl) (by kernel_rfl) (fun _ _ _ h => h) (by rfl) ?ht108 hH1 ?rt108
                        case ht108 => ((intro W hSw); obtain ⟨n0, n1, n2, n3, n4, n5, n6, n7, n8, n9, n10⟩ := hSw.1.cells11; obtain ⟨a0, a1, a2, a3, a4, a5, a6, a7, a8, a9, a10⟩ := hSw.2.cells11; go_simp; (try with_reducible rfl))
                        try simp only [Act.put, List.setIfInBounds_toArray, List.set_cons_zero, List.set_cons_succ]
                        refine Fe.any_take 20 95 ?vt109 rfl rfl (by kernel_rfl) (by kernel_rfl) (by kernel_rfl) (fun _ _ _ h => h) (by rfl) ?ht109 hH1 ?rt109
                        case ht109 => ((intro W hSw); obtain ⟨n0, n1, n2, n3, n4, n5, n6, n7, n8, n9, n10⟩ := hSw.1.cells11; obtain ⟨a0, a1, a2, a3, a4, a5, a6, a7, a8, a9, a10⟩ := hSw.2.cells11; go_simp; (try with_reducible rfl))
                        try simp only [Act.put, List.setIfInBounds_toArray, List.set_cons_zero, List.set_cons_succ]
                        refine Fe.any_take 21 96 ?vt110 rfl rfl (by kernel_rfl) (by kernel_rfl) (by kernel_rfl) (fun _ _ _ h => h) (by rfl) ?ht110 hH1 ?rt110
                        case ht110 => ((intro W hSw); obtain ⟨n0, n1, n2, n3, n4, n5, n6, n7, n8, n9, n10⟩ := hSw.1.cells11; obtain ⟨a0, a1, a2, a3, a4, a5, a6, a7, a8, a9, a10⟩ := hSw.2.cells11; go_simp; (try with_reducible rfl))
                        try simp only [Act.put, List.setIfInBounds_toArray, List.set_cons_zero, List.set_cons_succ]
                        refine Fe.any_take 22 97 ?vt111 rfl rfl (by kernel_rfl) (by kernel_rfl) (by kernel_rfl) (fun _ _ _ h => h) (by rfl) ?ht111 hH1 ?rt111
                        case ht111 => ((intro W hSw); obtain ⟨n0, n1, n2, n3, n4, n5, n6, n7, n8, n9, n10⟩ := hSw.1.cells11; obtain ⟨a0, a1, a2, a3, a4, a5, a6, a7, a8, a9, a10⟩ := hSw.2.cells11; go_simp; (try with_reducible rfl))
                        try simp only [Act.put, List.setIfInBounds_toArray, List.set_cons_zero, List.set_cons_succ]
                        refine Fe.any_take 25 100 ?vt112 rfl rfl (by kernel_rfl) (by kernel_rfl) (by kernel_rfl) (fun _ _ _ h => h) (by rfl) ?ht112 hH1 ?rt112
                        case ht112 => ((intro W hSw); obtain ⟨n0, n1, n2, n3, n4, n5, n6, n7, n8, n9, n10⟩ := hSw.1.cells11; obtain ⟨a0, a1, a2, a3, a4, a5, a6, a7, a8, a9, a10⟩ := hSw.2.cells11; go_simp; (try with_reducible rfl))
                        try simp only [Act.put, List.setIfInBounds_toArray, List.set_cons_zero, List.set_cons_succ]
                        refine Fe.any_take 26 101 ?vt113 rfl rfl (by kernel_rfl) (by kernel_rfl) (by kernel_rfl) (fun _ _ _ h => h) (by rfl) ?ht113 hH1 ?rt113
                        case ht113 => ((intro W hSw); obtain ⟨n0, n1, n2, n3, n4, n5, n6, n7, n8, n9, n10⟩ := hSw.1.cells11; obtain ⟨a0, a1, a2, a3, a4, a5, a6, a7, a8, a9, a10⟩ := hSw.2.cells11; go_simp; (try with_reducible rfl))
                        try simp only [Act.put, List.setIfInBounds_toArray, List.set_cons_zero, List.set_cons_succ]
                        refine Fe.any_take 27 102 ?vt114 rfl rfl (by kernel_rfl) (by kernel_rfl) (by kernel_rfl) (fun _ _ _ h => h) (by rfl) ?ht114 hH1 ?rt114
                        case ht114 => ((intro W hSw); obtain ⟨n0, n1, n2, n3, n4, n5, n6, n7, n8, n9, n10⟩ := hSw.1.cells11; obtain ⟨a0, a1, a2, a3, a4, a5, a6, a7, a8, a9, a10⟩ := hSw.2.cells11; go_simp; (try with_reducible rfl))
                        try simp only [Act.put, List.setIfInBounds_toArray, List.set_cons_zero, List.set_cons_succ]
                        refine wpAnyH_ready (rs := [23]) (by kernel_rfl) (by simp) ?_
                        refine AllReadyH.cons rfl (fun K hK => ?_) AllReadyH.nil
                        go_simp
                        go_at_call 29
                        with_reducible refine (cw_effects SD.out).mono ?_
                        rintro e w30 ⟨vk, rfl, hr, hb⟩
                        obtain ⟨Ak, ck, rfl, -, -⟩ := F_row hr
                        rw [hd]
                        have SF := Lib.hid (SD.out.below hb)
                        have LNF := Lib.hid ((LN_15.out).below (Below.trans (Below.refl w15.heap.size w15).drew hb) (LN_15.out).lt)
                        have LAF := Lib.hid ((LA_15.out).below (Below.trans (Below.refl w15.heap.size w15).drew hb) (LA_15.out).lt)
                        clear hr hb
                        refine hK.out _ _ (⟨LNF.out, LAF.out⟩) (fun hH9 => ?_)
                        clear hK K hH1
                        try simp only [Act.put, List.setIfInBounds_toArray, List.set_cons_zero, List.set_cons_succ]
                        refine Fe.any_take 24 99 ?vt115 rfl rfl (by kernel_rfl) (by kernel_rfl) (by kernel_rfl) (fun _ _ _ h => h) (by rfl) ?ht115 hH9 ?rt115
                        case ht115 => ((intro W hSw); obtain ⟨n0, n1, n2, n3, n4, n5, n6, n7, n8, n9, n10⟩ := hSw.1.cells11; obtain ⟨a0, a1, a2, a3, a4, a5, a6, a7, a8, a9, a10⟩ := hSw.2.cells11; go_simp; (try with_reducible rfl))
                        try simp only [Act.put, List.setIfInBounds_toArray, List.set_cons_zero, List.set_cons_succ]
                        refine Fe.any_take 28 103 ?vt116 rfl rfl (by kernel_rfl) (by kernel_rfl) (by kernel_rfl) (fun _ _ _ h => h) (by rfl) ?ht116 hH9 ?rt116
                        case ht116 => ((intro W hSw); obtain ⟨n0, n1, n2, n3, n4, n5, n6, n7, n8, n9, n10⟩ := hSw.1.cells11; obtain ⟨a0, a1, a2, a3, a4, a5, a6, a7, a8, a9, a10⟩ := hSw.2.cells11; go_simp; (try with_reducible rfl))
                        try simp only [Act.put, List.setIfInBounds_toArray, List.set_cons_zero, List.set_cons_succ]
                        refine Fe.any_take 29 104 ?vt117 rfl rfl (by kernel_rfl) (by kernel_rfl) (by kernel_rfl) (fun _ _ _ h => h) (by rfl) ?ht117 hH9 ?rt117
                        case ht117 => ((intro W hSw); obtain ⟨n0, n1, n2, n3, n4, n5, n6, n7, n8, n9, n10⟩ := hSw.1.cells11; obtain ⟨a0, a1, a2, a3, a4, a5, a6, a7, a8, a9, a10⟩ := hSw.2.cells11; go_simp; (try with_reducible rfl))
                        try simp only [Act.put, List.setIfInBounds_toArray, List.set_cons_zero, List.set_cons_succ]
                        refine Fe.any_take 30 105 ?vt118 rfl rfl (by kernel_rfl) (by kernel_rfl) (by kernel_rfl) (fun _ _ _ h => h) (by rfl) ?ht118 hH9 ?rt118
                        case ht118 => ((intro W hSw); obtain ⟨n0, n1, n2, n3, n4, n5, n6, n7, n8, n9, n10⟩ := hSw.1.cells11; obtain ⟨a0, a1, a2, a3, a4, a5, a6, a7, a8, a9, a10⟩ := hSw.2.cells11; go_simp; (try with_reducible rfl))
                        try simp only [Act.put, List.setIfInBounds_toArray, List.set_cons_zero, List.set_cons_succ]
                        clear hH9
                        refine wpAnyH_done (by kernel_rfl) ?_ _
                        refine NoPanic.normal ?_
                        go_wp2
                        go_roundw
                        case rel => exact ⟨j + 1, b2, q2, by omega, by omega, by go_num, SF.out⟩
                        case measure => simp [intOf]; omega
                    case ord2 =>
                      as_aux_lemma =>
                        obtain ⟨n0, n1, n2, n3, n4, n5, n6, n7, n8, n9, n10⟩ := LN_15.out.cells11
                        go_simp
                        refine hK.out _ _ (⟨LN_15.out, LA_15.out⟩) (fun hH1 => ?_)
                        clear hK K hH0 n0 n1 n2 n3 n4 n5 n6 n7 n8 n9 n10
                        try simp only [Act.put, List.setIfInBounds_toArray, List.set_cons_zero, List.set_cons_succ]
                        refine wpAnyH_ready (rs := [7]) (by kernel_rfl) (by simp) ?_
                        refine AllReadyH.cons rfl (fun K hK => ?_) AllReadyH.nil
                        go_simp
                        go_at_call 26
                        with_reducible refine (cw_epoch SD.out).mono ?_
                        rintro e _ ⟨rfl, rfl⟩
                        rw [eep]
                        refine hK.out _ _ (⟨LN_15.out, LA_15.out⟩) (fun hH2 => ?_)
                        clear hK K hH1
                        try simp only [Act.put, List.setIfInBounds_toArray, List.set_cons_zero, List.set_cons_succ]
                        refine Fe.any_take 10 85 ?vt119 rfl rfl (by kernel_rfl) (by kernel_rfl) (by kernel_rfl) (fun _ _ _ h => h) (by rfl) ?ht119 hH2 ?rt119
                        case ht119 => ((intro W hSw); obtain ⟨n0, n1, n2, n3, n4, n5, n6, n7, n8, n9, n10⟩ := hSw.1.cells11; obtain ⟨a0, a1, a2, a3, a4, a5, a6, a7, a8, a9, a10⟩ := hSw.2.cells11; go_simp; (try with_reducible rfl))
                        try simp only [Act.put, List.setIfInBounds_toArray, List.set_cons_zero, List.set_cons_succ]
                        refine Fe.any_take 11 86 ?vt120 rfl rfl (by kernel_rfl) (by kernel_rfl) (by kernel_rfl) (fun _ _ _ h => h) (by rfl) ?ht120 hH2 ?rt120
                        case ht120 => ((intro W hSw); obtain ⟨n0, n1, n2, n3, n4, n5, n6, n7, n8, n9, n10⟩ := hSw.1.cells11; obtain ⟨a0, a1, a2, a3, a4, a5, a6, a7, a8, a9, a10⟩ := hSw.2.cells11; go_simp; (try with_reducible rfl))
                        try simp only [Act.put, List.setIfInBounds_toArray, List.set_cons_zero, List.set_cons_succ]
                        refine Fe.any_take 12 87 ?vt121 rfl rfl (by kernel_rfl) (by kernel_rfl) (by kernel_rfl) (fun _ _ _ h => h) (by rfl) ?ht121 hH2 ?rt121
                        case ht121 => ((intro W hSw); obtain ⟨n0, n1, n2, n3, n4, n5, n6, n7, n8, n9, n10⟩ := hSw.1.cells11; obtain ⟨a0, a1, a2, a3, a4, a5, a6, a7, a8, a9, a10⟩ := hSw.2.cells11; go_simp; (try with_reducible rfl))
                        try simp only [Act.put, List.setIfInBounds_toArray, List.set_cons_zero, List.set_cons_succ]
                        refine Fe.any_take 13 88 ?vt122 rfl rfl (by kernel_rfl) (by kernel_rfl) (by kernel_rfl) (fun _ _ _ h => h) (by rfl) ?ht122 hH2 ?rt122
                        case ht122 => ((intro W hSw); obtain ⟨n0, n1, n2, n3, n4, n5, n6, n7, n8, n9, n10⟩ := hSw.1.cells11; obtain ⟨a0, a1, a2, a3, a4, a5, a6, a7, a8, a9, a10⟩ := hSw.2.cells11; go_simp; (try with_reducible rfl))
                        try simp only [Act.put, List.setIfInBounds_toArray, List.set_cons_zero, List.set_cons_succ]
                        refine Fe.any_take 14 89 ?vt123 rfl rfl (by kernel_rfl) (by kernel_rfl) (by kernel_rfl) (fun _ _ _ h => h) (by rfl) ?ht123 hH2 ?rt123
                        case ht123 => ((intro W hSw); obtain ⟨n0, n1, n2, n3, n4, n5, n6, n7, n8, n9, n10⟩ := hSw.1.cells11; obtain ⟨a0, a1, a2, a3, a4, a5, a6, a7, a8, a9, a10⟩ := hSw.2.cells11; go_simp; (try with_reducible rfl))
                        try simp only [Act.put, List.setIfInBounds_toArray, List.set_cons_zero, List.set_cons_succ]
                        refine Fe.any_take 15 90 ?vt124 rfl rfl (by kernel_rfl) (by kernel_rfl) (by kernel_rfl) (fun _ _ _ h => h) (by rfl) ?ht124 hH2 ?rt124
                        case ht124 => ((intro W hSw); obtain ⟨n0, n1, n2, n3, n4, n5, n6, n7, n8, n9, n10⟩ := hSw.1.cells11; obtain ⟨a0, a1, a2, a3, a4, a5, a6, a7, a8, a9, a10⟩ := hSw.2.cells11; go_simp; (try with_reducible rfl))
                        try simp only [Act.put, List.setIfInBounds_toArray, List.set_cons_zero, List.set_cons_succ]
                        refine Fe.any_take 16 91 ?vt125 rfl rfl (by kernel_rfl) (by kernel_rfl) (by kernel_rfl) (fun _ _ _ h => h) (by rfl) ?ht125 hH2 ?rt125
                        case ht125 => ((intro W hSw); obtain ⟨n0, n1, n2, n3, n4, n5, n6, n7, n8, n9, n10⟩ := hSw.1.cells11; obtain ⟨a0, a1, a2, a3, a4, a5, a6, a7, a8, a9, a10⟩ := hSw.2.cells11; go_simp; (try with_reducible rfl))
                        try simp only [Act.put, List.setIfInBounds_toArray, List.set_cons_zero, List.set_cons_succ]
                        refine Fe.any_take 17 92 ?vt126 rfl rfl (by kernel_rfl) (by kernel_rfl) (by kernel_rfl) (fun _ _ _ h => h) (by rfl) ?ht126 hH2 ?rt126
                        case ht126 => ((intro W hSw); obtain ⟨n0, n1, n2, n3, n4, n5, n6, n7, n8, n9, n10⟩ := hSw.1.cells11; obtain ⟨a0, a1, a2, a3, a4, a5, a6, a7, a8, a9, a10⟩ := hSw.2.cells11; go_simp; (try with_reducible rfl))
                        try simp only [Act.put, List.setIfInBounds_toArray, List.set_cons_zero, List.set_cons_succ]
                        refine Fe.any_take 18 93 ?vt127 rfl rfl (by kernel_rfl) (by kernel_rfl) (by kernel_rfl) (fun _ _ _ h => h) (by rfl) ?ht127 hH2 ?rt127
                        case ht127 => ((intro W hSw); obtain ⟨n0, n1, n2, n3, n4, n5, n6, n7, n8, n9, n10⟩ := hSw.1.cells11; obtain ⟨a0, a1, a2, a3, a4, a5, a6, a7, a8, a9, a10⟩ := hSw.2.cells11; go_simp; (try with_reducible rfl))
                        try simp only [Act.put, List.setIfInBounds_toArray, List.set_cons_zero, List.set_cons_succ]
                        refine Fe.any_take 19 94 ?vt128 rfl rfl (by kernel_rfl) (by kernel_rfl) (by kernel_rfl) (fun _ _ _ h => h) (by rfl) ?ht128 hH2 ?rt128
                        case ht128 => ((intro W hSw); obtain ⟨n0, n1, n2, n3, n4, n5, n6, n7, n8, n9, n10⟩ := hSw.1.cells11; obtain ⟨a0, a1, a2, a3, a4, a5, a6, a7, a8, a9, a10⟩ := hSw.2.cells11; go_simp; (try with_reducible rfl))
                        try simp only [Act.put, List.setIfInBounds_toArray, List.set_cons_zero, List.set_cons_succ]
                        refine Fe.any_take 20 95 ?vt129 rfl rfl (by kernel_rfl) (by kernel_rfl) (by kernel_rfl) (fun _ _ _ h => h) (by rfl) ?ht129 hH2 ?rt129
                        case ht129 => ((intro W hSw); obtain ⟨n0, n1, n2, n3, n4, n5, n6, n7, n8, n9, n10⟩ := hSw.1.cells11; obtain ⟨a0, a1, a2, a3, a4, a5, a6, a7, a8, a9, a10⟩ := hSw.2.cells11; go_simp; (try with_reducible rfl))
                        try simp only [Act.put, List.setIfInBounds_toArray, List.set_cons_zero, List.set_cons_succ]
                        refine Fe.any_take 21 96 ?vt130 rfl rfl (by kernel_rfl) (by kernel_rfl) (by kernel_rfl) (fun _ _ _ h => h) (by rfl) ?ht130 hH2 ?rt130
                        case ht130 => ((intro W hSw); obtain ⟨n0, n1, n2, n3, n4, n5, n6, n7, n8, n9, n10⟩ := hSw.1.cells11; obtain ⟨a0, a1, a2, a3, a4, a5, a6, a7, a8, a9, a10⟩ := hSw.2.cells11; go_simp; (try with_reducible rfl))
                        try simp only [Act.put, List.setIfInBounds_toArray, List.set_cons_zero, List.set_cons_succ]
                        refine Fe.any_take 22 97 ?vt131 rfl rfl (by kernel_rfl) (by kernel_rfl) (by kernel_rfl) (fun _ _ _ h => h) (by rfl) ?ht131 hH2 ?rt131
                        case ht131 => ((intro W hSw); obtain ⟨n0, n1, n2, n3, n4, n5, n6, n7, n8, n9, n10⟩ := hSw.1.cells11; obtain ⟨a0, a1, a2, a3, a4, a5, a6, a7, a8, a9, a10⟩ := hSw.2.cells11; go_simp; (try with_reducible rfl))
                        try simp only [Act.put, List.setIfInBounds_toArray, List.set_cons_zero, List.set_cons_succ]
                        refine Fe.any_take 25 100 ?vt132 rfl rfl (by kernel_rfl) (by kernel_rfl) (by kernel_rfl) (fun _ _ _ h => h) (by rfl) ?ht132 hH2 ?rt132
                        case ht132 => ((intro W hSw); obtain ⟨n0, n1, n2, n3, n4, n5, n6, n7, n8, n9, n10⟩ := hSw.1.cells11; obtain ⟨a0, a1, a2, a3, a4, a5, a6, a7, a8, a9, a10⟩ := hSw.2.cells11; go_simp; (try with_reducible rfl))
                        try simp only [Act.put, List.setIfInBounds_toArray, List.set_cons_zero, List.set_cons_succ]
                        refine Fe.any_take 26 101 ?vt133 rfl rfl (by kernel_rfl) (by kernel_rfl) (by kernel_rfl) (fun _ _ _ h => h) (by rfl) ?ht133 hH2 ?rt133
                        case ht133 => ((intro W hSw); obtain ⟨n0, n1, n2, n3, n4, n5, n6, n7, n8, n9, n10⟩ := hSw.1.cells11; obtain ⟨a0, a1, a2, a3, a4, a5, a6, a7, a8, a9, a10⟩ := hSw.2.cells11; go_simp; (try with_reducible rfl))
                        try simp only [Act.put, List.setIfInBounds_toArray, List.set_cons_zero, List.set_cons_succ]
                        refine Fe.any_take 27 102 ?vt134 rfl rfl (by kernel_rfl) (by kernel_rfl) (by kernel_rfl) (fun _ _ _ h => h) (by rfl) ?ht134 hH2 ?rt134
                        case ht134 => ((intro W hSw); obtain ⟨n0, n1, n2, n3, n4, n5, n6, n7, n8, n9, n10⟩ := hSw.1.cells11; obtain ⟨a0, a1, a2, a3, a4, a5, a6, a7, a8, a9, a10⟩ := hSw.2.cells11; go_simp; (try with_reducible rfl))
                        try simp only [Act.put, List.setIfInBounds_toArray, List.set_cons_zero, List.set_cons_succ]
                        refine wpAnyH_ready (rs := [23]) (by kernel_rfl) (by simp) ?_
                        refine AllReadyH.cons rfl (fun K hK => ?_) AllReadyH.nil
                        go_simp
                        go_at_call 29
                        with_reducible refine (cw_effects SD.out).mono ?_
                        rintro e w30 ⟨vk, rfl, hr, hb⟩
                        obtain ⟨Ak, ck, rfl, -, -⟩ := F_row hr
                        rw [hd]
                        have SF := Lib.hid (SD.out.below hb)
                        have LNF := Lib.hid ((LN_15.out).below (Below.trans (Below.refl w15.heap.size w15).drew hb) (LN_15.out).lt)
                        have LAF := Lib.hid ((LA_15.out).below (Below.trans (Below.refl w15.heap.size w15).drew hb) (LA_15.out).lt)
                        clear hr hb
                        refine hK.out _ _ (⟨LNF.out, LAF.out⟩) (fun hH9 => ?_)
                        clear hK K hH2
                        try simp only [Act.put, List.setIfInBounds_toArray, List.set_cons_zero, List.set_cons_succ]
                        refine Fe.any_take 24 99 ?vt135 rfl rfl (by kernel_rfl) (by kernel_rfl) (by kernel_rfl) (fun _ _ _ h => h) (by rfl) ?ht135 hH9 ?rt135
                        case ht135 => ((intro W hSw); obtain ⟨n0, n1, n2, n3, n4, n5, n6, n7, n8, n9, n10⟩ := hSw.1.cells11; obtain ⟨a0, a1, a2, a3, a4, a5, a6, a7, a8, a9, a10⟩ := hSw.2.cells11; go_simp; (try with_reducible rfl))
                        try simp only [Act.put, List.setIfInBounds_toArray, List.set_cons_zero, List.set_cons_succ]
                        refine Fe.any_take 28 103 ?vt136 rfl rfl (by kernel_rfl) (by kernel_rfl) (by kernel_rfl) (fun _ _ _ h => h) (by rfl) ?ht136 hH9 ?rt136
                        case ht136 => ((intro W hSw); obtain ⟨n0, n1, n2, n3, n4, n5, n6, n7, n8, n9, n10⟩ := hSw.1.cells11; obtain ⟨a0, a1, a2, a3, a4, a5, a6, a7, a8, a9, a10⟩ := hSw.2.cells11; go_simp; (try with_reducible rfl))
                        try simp only [Act.put, List.setIfInBounds_toArray, List.set_cons_zero, List.set_cons_succ]
                        refine Fe.any_take 29 104 ?vt137 rfl rfl (by kernel_rfl) (by kernel_rfl) (by kernel_rfl) (fun _ _ _ h => h) (by rfl) ?ht137 hH9 ?rt137
                        case ht137 => ((intro W hSw); obtain ⟨n0, n1, n2, n3, n4, n5, n6, n7, n8, n9, n10⟩ := hSw.1.cells11; obtain ⟨a0, a1, a2, a3, a4, a5, a6, a7, a8, a9, a10⟩ := hSw.2.cells11; go_simp; (try with_reducible rfl))
                        try simp only [Act.put, List.setIfInBounds_toArray, List.set_cons_zero, List.set_cons_succ]
                        refine Fe.any_take 30 105 ?vt138 rfl rfl (by kernel_rfl) (by kernel_rfl) (by kernel_rfl) (fun _ _ _ h => h) (by rfl) ?ht138 hH9 ?rt138
                        case ht138 => ((intro W hSw); obtain ⟨n0, n1, n2, n3, n4, n5, n6, n7, n8, n9, n10⟩ := hSw.1.cells11; obtain ⟨a0, a1, a2, a3, a4, a5, a6, a7, a8, a9, a10⟩ := hSw.2.cells11; go_simp; (try with_reducible rfl))
                        try simp only [Act.put, List.setIfInBounds_toArray, List.set_cons_zero, List.set_cons_succ]
                        clear hH9
                        refine wpAnyH_done (by kernel_rfl) ?_ _
                        refine NoPanic.normal ?_
                        go_wp2
                        go_roundw
                        case rel => exact ⟨j + 1, b2, q2, by omega, by omega, by go_num, SF.out⟩
                        case measure => simp [intOf]; omega
                  · go_wp2_with fail
                    with_reducible refine (cw_effects S_15.out).mono ?_
                    rintro e w16 ⟨vj, rfl, hr, hb⟩
                    have S_16 := Lib.hid (S_15.out.below hb)
                    have LN_16 := Lib.hid (LN_15.out.below hb LN_15.out.lt)
                    have RG_16 := Lib.hid (RG_15.out.below hb)
                    have RA_16 := Lib.hid (RA_15.out.below hb)
                    have RE_16 := Lib.hid (RE_15.out.below hb)
                    have LA_16 := Lib.hid (LA_15.out.below hb LA_15.out.lt)
                    have vhR_16 := Lib.hid (vhR_15.out.below hb)
                    have viR_16 := Lib.hid (viR_15.out.below hb)
                    have vjR_16 := Lib.hid hr
                    clear hr
                    clear hb
                    go_wp2_with fail
                    with_reducible refine (smF_any _ _ _ _ _ _ w16 vjR_16.out RE_16.out).mono ?_
                    rintro e w17 ⟨hb, t3, rfl, ht3⟩
                    have S_17 := Lib.hid (S_16.out.below hb)
                    have LN_17 := Lib.hid (LN_16.out.below hb LN_16.out.lt)
                    have RG_17 := Lib.hid (RG_16.out.below hb)
                    have RA_17 := Lib.hid (RA_16.out.below hb)
                    have RE_17 := Lib.hid (RE_16.out.below hb)
                    have LA_17 := Lib.hid (LA_16.out.below hb LA_16.out.lt)
                    have vhR_17 := Lib.hid (vhR_16.out.below hb)
                    have viR_17 := Lib.hid (viR_16.out.below hb)
                    have vjR_17 := Lib.hid (vjR_16.out.below hb)
                    clear hb
                    cases t3
                    · obtain ⟨n0, n1, n2, n3, n4, n5, n6, n7, n8, n9, n10⟩ := LN_17.out.cells11
                      obtain ⟨a0, a1, a2, a3, a4, a5, a6, a7, a8, a9, a10⟩ := LA_17.out.cells11
                      have d1 : decide ((ep : Int) < (q.f.ep : Int)) = false := by simp; exact ele
                      have d1b : decide (ep < q.f.ep) = false := decide_eq_false (Nat.not_lt.2 ele)
                      have SD := Lib.hid (S_17.out.below (Below.refl w17.heap.size w17).drew)
                      have hw : IntKind.i64.wrap ((q.E.length : Int) + 1) = (q.E.length : Int) + 1 := IntWalk.i64_in _ (by have := HEL.out; omega)
                      have fE : (((q.E.length + 1 : Nat) : Int) == (q.E.length : Int) + 1) = true := by simp
                      go_wp2_with fail
                      refine wp_region_noPanic ?_
                      refine wp_region_held_drew (S := fun W => Lies W w5.heap.size 55 #[.int .i64 7, .int .u32 (ep : Int), .int .u32 0, .int .u64 0, .int .u64 0, .int .u32 (x.o : Int), .int .i64 x.s, .bool x.u, .int .i64 0, .slice none 0 0, .slice A2 (askD x).length c2] ∧ Lies W w10.heap.size 55 #[.int .i64 8, .int .u32 (ep : Int), .int .u32 0, .int .u64 0, .int .u64 0, .int .u32 (x.o : Int), .int .i64 x.s, .bool x.u, .int .i64 v, .slice none 0 0, .slice A4 r.length c4]) (by kernel_rfl) (⟨LN_17.out, LA_17.out⟩) (fun hH0 => ?_)
                      refine Fe.any_take 0 75 ?vt140 rfl rfl (by kernel_rfl) (by kernel_rfl) (by kernel_rfl) (fun _ _ _ h => h) (by rfl) ?ht140 hH0 ?rt140
                      case ht140 => ((intro W hSw); obtain ⟨n0, n1, n2, n3, n4, n5, n6, n7, n8, n9, n10⟩ := hSw.1.cells11; obtain ⟨a0, a1, a2, a3, a4, a5, a6, a7, a8, a9, a10⟩ := hSw.2.cells11; go_simp; (try with_reducible rfl))
                      try simp only [Act.put, List.setIfInBounds_toArray, List.set_cons_zero, List.set_cons_succ]
                      refine Fe.any_take 1 76 ?vt141 rfl rfl (by kernel_rfl) (by kernel_rfl) (by kernel_rfl) (fun _ _ _ h => h) (by rfl) ?ht141 hH0 ?rt141
                      case ht141 => ((intro W hSw); obtain ⟨n0, n1, n2, n3, n4, n5, n6, n7, n8, n9, n10⟩ := hSw.1.cells11; obtain ⟨a0, a1, a2, a3, a4, a5, a6, a7, a8, a9, a10⟩ := hSw.2.cells11; go_simp; (try with_reducible rfl))
                      try simp only [Act.put, List.setIfInBounds_toArray, List.set_cons_zero, List.set_cons_succ]
                      refine Fe.any_take 2 77 ?vt142 rfl rfl (by kernel_rfl) (by kernel_rfl) (by kernel_rfl) (fun _ _ _ h => h) (by rfl) ?ht142 hH0 ?rt142
                      case ht142 => ((intro W hSw); obtain ⟨n0, n1, n2, n3, n4, n5, n6, n7, n8, n9, n10⟩ := hSw.1.cells11; obtain ⟨a0, a1, a2, a3, a4, a5, a6, a7, a8, a9, a10⟩ := hSw.2.cells11; go_simp; (try with_reducible rfl))
                      try simp only [Act.put, List.setIfInBounds_toArray, List.set_cons_zero, List.set_cons_succ]
                      refine Fe.any_take 3 78 ?vt143 rfl rfl (by kernel_rfl) (by kernel_rfl) (by kernel_rfl) (fun _ _ _ h => h) (by rfl) ?ht143 hH0 ?rt143
                      case ht143 => ((intro W hSw); obtain ⟨n0, n1, n2, n3, n4, n5, n6, n7, n8, n9, n10⟩ := hSw.1.cells11; obtain ⟨a0, a1, a2, a3, a4, a5, a6, a7, a8, a9, a10⟩ := hSw.2.cells11; go_simp; (try with_reducible rfl))
                      try simp only [Act.put, List.setIfInBounds_toArray, List.set_cons_zero, List.set_cons_succ]
                      refine Fe.any_take 4 79 ?vt144 rfl rfl (by kernel_rfl) (by kernel_rfl) (by kernel_rfl) (fun _ _ _ h => h) (by rfl) ?ht144 hH0 ?rt144
                      case ht144 => ((intro W hSw); obtain ⟨n0, n1, n2, n3, n4, n5, n6, n7, n8, n9, n10⟩ := hSw.1.cells11; obtain ⟨a0, a1, a2, a3, a4, a5, a6, a7, a8, a9, a10⟩ := hSw.2.cells11; go_simp; (try with_reducible rfl))
                      try simp only [Act.put, List.setIfInBounds_toArray, List.set_cons_zero, List.set_cons_succ]
                      refine Fe.any_take 5 80 ?vt145 rfl rfl (by kernel_rfl) (by kernel_rfl) (by kernel_rfl) (fun _ _ _ h => h) (by rfl) ?ht145 hH0 ?rt145
                      case ht145 => ((intro W hSw); obtain ⟨n0, n1, n2, n3, n4, n5, n6, n7, n8, n9, n10⟩ := hSw.1.cells11; obtain ⟨a0, a1, a2, a3, a4, a5, a6, a7, a8, a9, a10⟩ := hSw.2.cells11; go_simp; (try with_reducible rfl))
                      try simp only [Act.put, List.setIfInBounds_toArray, List.set_cons_zero, List.set_cons_succ]
                      refine Fe.any_take 6 81 ?vt146 rfl rfl (by kernel_rfl) (by kernel_rfl) (by kernel_rfl) (fun _ _ _ h => h) (by rfl) ?ht146 hH0 ?rt146
                      case ht146 => ((intro W hSw); obtain ⟨n0, n1, n2, n3, n4, n5, n6, n7, n8, n9, n10⟩ := hSw.1.cells11; obtain ⟨a0, a1, a2, a3, a4, a5, a6, a7, a8, a9, a10⟩ := hSw.2.cells11; go_simp; (try with_reducible rfl))
                      try simp only [Act.put, List.setIfInBounds_toArray, List.set_cons_zero, List.set_cons_succ]
                      refine Fe.any_take 8 83 ?vt147 rfl rfl (by kernel_rfl) (by kernel_rfl) (by kernel_rfl) (fun _ _ _ h => h) (by rfl) ?ht147 hH0 ?rt147
                      case ht147 => ((intro W hSw); obtain ⟨n0, n1, n2, n3, n4, n5, n6, n7, n8, n9, n10⟩ := hSw.1.cells11; obtain ⟨a0, a1, a2, a3, a4, a5, a6, a7, a8, a9, a10⟩ := hSw.2.cells11; go_simp; (try with_reducible rfl))
                      try simp only [Act.put, List.setIfInBounds_toArray, List.set_cons_zero, List.set_cons_succ]
                      refine wpAnyH_ready (rs := [7, 9]) (by kernel_rfl) (by simp) ?_
                      refine AllReadyH.cons rfl (fun K hK => ?ord1) (AllReadyH.cons rfl (fun K hK => ?ord2) AllReadyH.nil)
                      case ord1 =>
                        as_aux_lemma =>
                          go_simp
                          go_at_call 26
                          with_reducible refine (cw_epoch SD.out).mono ?_
                          rintro e _ ⟨rfl, rfl⟩
                          rw [eep]
                          refine hK.out _ _ (⟨LN_17.out, LA_17.out⟩) (fun hH1 => ?_)
                          clear hK K hH0
                          try simp only [Act.put, List.setIfInBounds_toArray, List.set_cons_zero, List.set_cons_succ]
                          refine Fe.any_take 9 84 ?vt148 rfl rfl (by kernel_rfl) (by kernel_rfl) (by kernel_rfl) (fun _ _ _ h => h) (by rfl) ?ht148 hH1 ?rt148
                          case ht148 => ((intro W hSw); obtain ⟨n0, n1, n2, n3, n4, n5, n6, n7, n8, n9, n10⟩ := hSw.1.cells11; obtain ⟨a0, a1, a2, a3, a4, a5, a6, a7, a8, a9, a10⟩ := hSw.2.cells11; go_simp; (try with_reducible rfl))
                          try simp only [Act.put, List.setIfInBounds_toArray, List.set_cons_zero, List.set_cons_succ]
                          refine Fe.any_take 10 85 ?vt149 rfl rfl (by kernel_rfl) (by kernel_rfl) (by kernel_rfl) (fun _ _ _ h => h) (by rfl) ?ht149 hH1 ?rt149
                          case ht149 => ((intro W hSw); obtain ⟨n0, n1, n2, n3, n4, n5, n6, n7, n8, n9, n10⟩ := hSw.1.cells11; obtain ⟨a0, a1, a2, a3, a4, a5, a6, a7, a8, a9, a10⟩ := hSw.2.cells11; go_simp; (try with_reducible rfl))
                          try simp only [Act.put, List.setIfInBounds_toArray, List.set_cons_zero, List.set_cons_succ]
                          refine Fe.any_take 11 86 ?vt150 rfl rfl (by kernel_rfl) (by kernel_rfl) (by kernel_rfl) (fun _ _ _ h => h) (by rfl) ?ht150 hH1 ?rt150
                          case ht150 => ((intro W hSw); obtain ⟨n0, n1, n2, n3, n4, n5, n6, n7, n8, n9, n10⟩ := hSw.1.cells11; obtain ⟨a0, a1, a2, a3, a4, a5, a6, a7, a8, a9, a10⟩ := hSw.2.cells11; go_simp; (try with_reducible rfl))
                          try simp only [Act.put, List.setIfInBounds_toArray, List.set_cons_zero, List.set_cons_succ]
                          refine Fe.any_take 12 87 ?vt151 rfl rfl (by kernel_rfl) (by kernel_rfl) (by kernel_rfl) (fun _ _ _ h => h) (by rfl) ?ht151 hH1 ?rt151
                          case ht151 => ((intro W hSw); obtain ⟨n0, n1, n2, n3, n4, n5, n6, n7, n8, n9, n10⟩ := hSw.1.cells11; obtain ⟨a0, a1, a2, a3, a4, a5, a6, a7, a8, a9, a10⟩ := hSw.2.cells11; go_simp; (try with_reducible rfl))
                          try simp only [Act.put, List.setIfInBounds_toArray, List.set_cons_zero, List.set_cons_succ]
                          refine Fe.any_take 13 88 ?vt152 rfl rfl (by kernel_rfl) (by kernel_rfl) (by kernel_rfl) (fun _ _ _ h => h) (by rfl) ?ht152 hH1 ?rt152
                          case ht152 => ((intro W hSw); obtain ⟨n0, n1, n2, n3, n4, n5, n6, n7, n8, n9, n10⟩ := hSw.1.cells11; obtain ⟨a0, a1, a2, a3, a4, a5, a6, a7, a8, a9, a10⟩ := hSw.2.cells11; go_simp; (try with_reducible rfl))
                          try simp only [Act.put, List.setIfInBounds_toArray, List.set_cons_zero, List.set_cons_succ]
                          refine Fe.any_take 14 89 ?vt153 rfl rfl (by kernel_rfl) (by kernel_rfl) (by kernel_rfl) (fun _ _ _ h => h) (by rfl) ?ht153 hH1 ?rt153
                          case ht153 => ((intro W hSw); obtain ⟨n0, n1, n2, n3, n4, n5, n6, n7, n8, n9, n10⟩ := hSw.1.cells11; obtain ⟨a0, a1, a2, a3, a4, a5, a6, a7, a8, a9, a10⟩ := hSw.2.cells11; go_simp; (try with_reducible rfl))
                          try simp only [Act.put, List.setIfInBounds_toArray, List.set_cons_zero, List.set_cons_succ]
                          refine Fe.any_take 15 90 ?vt154 rfl rfl (by kernel_rfl) (by kernel_rfl) (by kernel_rfl) (fun _ _ _ h => h) (by rfl) ?ht154 hH1 ?rt154
                          case ht154 => ((intro W hSw); obtain ⟨n0, n1, n2, n3, n4, n5, n6, n7, n8, n9, n10⟩ := hSw.1.cells11; obtain ⟨a0, a1, a2, a3, a4, a5, a6, a7, a8, a9, a10⟩ := hSw.2.cells11; go_simp; (try with_reducible rfl))
                          try simp only [Act.put, List.setIfInBounds_toArray, List.set_cons_zero, List.set_cons_succ]
                          refine Fe.any_take 16 91 ?vt155 rfl rfl (by kernel_rfl) (by kernel_rfl) (by kernel_rfl) (fun _ _ _ h => h) (by rfl) ?ht155 hH1 ?rt155
                          case ht155 => ((intro W hSw); obtain ⟨n0, n1, n2, n3, n4, n5, n6, n7, n8, n9, n10⟩ := hSw.1.cells11; obtain ⟨a0, a1, a2, a3, a4, a5, a6, a7, a8, a9, a10⟩ := hSw.2.cells11; go_simp; (try with_reducible rfl))
                          try simp only [Act.put, List.setIfInBounds_toArray, List.set_cons_zero, List.set_cons_succ]
                          refine Fe.any_take 17 92 ?vt156 rfl rfl (by kernel_rfl) (by kernel_rfl) (by kernel_rfl) (fun _ _ _ h => h) (by rfl) ?ht156 hH1 ?rt156
                          case ht156 => ((intro W hSw); obtain ⟨n0, n1, n2, n3, n4, n5, n6, n7, n8, n9, n10⟩ := hSw.1.cells11; obtain ⟨a0, a1, a2, a3, a4, a5, a6, a7, a8, a9, a10⟩ := hSw.2.cells11; go_simp; (try with_reducible rfl))
                          try simp only [Act.put, List.setIfInBounds_toArray, List.set_cons_zero, List.set_cons_succ]
                          refine Fe.any_take 18 93 ?vt157 rfl rfl (by kernel_rfl) (by kernel_rfl) (by kernel_rfl) (fun _ _ _ h => h) (by rfl) ?ht157 hH1 ?rt157
                          case ht157 => ((intro W hSw); obtain ⟨n0, n1, n2, n3, n4, n5, n6, n7, n8, n9, n10⟩ := hSw.1.cells11; obtain ⟨a0, a1, a2, a3, a4, a5, a6, a7, a8, a9, a10⟩ := hSw.2.cells11; go_simp; (try with_reducible rfl))
                          try simp only [Act.put, List.setIfInBounds_toArray, List.set_cons_zero, List.set_cons_succ]
                          refine Fe.any_take 19 94 ?vt158 rfl rfl (by kernel_rfl) (by kernel_rfl) (by kernel_rfl) (fun _ _ _ h => h) (by rfl) ?ht158 hH1 ?rt158
                          case ht158 => ((intro W hSw); obtain ⟨n0, n1, n2, n3, n4, n5, n6, n7, n8, n9, n10⟩ := hSw.1.cells11; obtain ⟨a0, a1, a2, a3, a4, a5, a6, a7, a8, a9, a10⟩ := hSw.2.cells11; go_simp; (try with_reducible rfl))
                          try simp only [Act.put, List.setIfInBounds_toArray, List.set_cons_zero, List.set_cons_succ]
                          refine Fe.any_take 20 95 ?vt159 rfl rfl (by kernel_rfl) (by kernel_rfl) (by kernel_rfl) (fun _ _ _ h => h) (by rfl) ?ht159 hH1 ?rt159
                          case ht159 => ((intro W hSw); obtain ⟨n0, n1, n2, n3, n4, n5, n6, n7, n8, n9, n10⟩ := hSw.1.cells11; obtain ⟨a0, a1, a2, a3, a4, a5, a6, a7, a8, a9, a10⟩ := hSw.2.cells11; go_simp; (try with_reducible rfl))
                          try simp only [Act.put, List.setIfInBounds_toArray, List.set_cons_zero, List.set_cons_succ]
                          refine Fe.any_take 21 96 ?vt160 rfl rfl (by kernel_rfl) (by kernel_rfl) (by kernel_rfl) (fun _ _ _ h => h) (by rfl) ?ht160 hH1 ?rt160
                          case ht160 => ((intro W hSw); obtain ⟨n0, n1, n2, n3, n4, n5, n6, n7, n8, n9, n10⟩ := hSw.1.cells11; obtain ⟨a0, a1, a2, a3, a4, a5, a6, a7, a8, a9, a10⟩ := hSw.2.cells11; go_simp; (try with_reducible rfl))
                          try simp only [Act.put, List.setIfInBounds_toArray, List.set_cons_zero, List.set_cons_succ]
                          refine Fe.any_take 22 97 ?vt161 rfl rfl (by kernel_rfl) (by kernel_rfl) (by kernel_rfl) (fun _ _ _ h => h) (by rfl) ?ht161 hH1 ?rt161
                          case ht161 => ((intro W hSw); obtain ⟨n0, n1, n2, n3, n4, n5, n6, n7, n8, n9, n10⟩ := hSw.1.cells11; obtain ⟨a0, a1, a2, a3, a4, a5, a6, a7, a8, a9, a10⟩ := hSw.2.cells11; go_simp; (try with_reducible rfl))
                          try simp only [Act.put, List.setIfInBounds_toArray, List.set_cons_zero, List.set_cons_succ]
                          refine Fe.any_take 25 100 ?vt162 rfl rfl (by kernel_rfl) (by kernel_rfl) (by kernel_rfl) (fun _ _ _ h => h) (by rfl) ?ht162 hH1 ?rt162
                          case ht162 => ((intro W hSw); obtain ⟨n0, n1, n2, n3, n4, n5, n6, n7, n8, n9, n10⟩ := hSw.1.cells11; obtain ⟨a0, a1, a2, a3, a4, a5, a6, a7, a8, a9, a10⟩ := hSw.2.cells11; go_simp; (try with_reducible rfl))
                          try simp only [Act.put, List.setIfInBounds_toArray, List.set_cons_zero, List.set_cons_succ]
                          refine Fe.any_take 26 101 ?vt163 rfl rfl (by kernel_rfl) (by kernel_rfl) (by kernel_rfl) (fun _ _ _ h => h) (by rfl) ?ht163 hH1 ?rt163
                          case ht163 => ((intro W hSw); obtain ⟨n0, n1, n2, n3, n4, n5, n6, n7, n8, n9, n10⟩ := hSw.1.cells11; obtain ⟨a0, a1, a2, a3, a4, a5, a6, a7, a8, a9, a10⟩ := hSw.2.cells11; go_simp; (try with_reducible rfl))
                          try simp only [Act.put, List.setIfInBounds_toArray, List.set_cons_zero, List.set_cons_succ]
                          refine Fe.any_take 27 102 ?vt164 rfl rfl (by kernel_rfl) (by kernel_rfl) (by kernel_rfl) (fun _ _ _ h => h) (by rfl) ?ht164 hH1 ?rt164
                          case ht164 => ((intro W hSw); obtain ⟨n0, n1, n2, n3, n4, n5, n6, n7, n8, n9, n10⟩ := hSw.1.cells11; obtain ⟨a0, a1, a2, a3, a4, a5, a6, a7, a8, a9, a10⟩ := hSw.2.cells11; go_simp; (try with_reducible rfl))
                          try simp only [Act.put, List.setIfInBounds_toArray, List.set_cons_zero, List.set_cons_succ]
                          refine wpAnyH_ready (rs := [23]) (by kernel_rfl) (by simp) ?_
                          refine AllReadyH.cons rfl (fun K hK => ?_) AllReadyH.nil
                          go_simp
                          go_at_call 29
                          with_reducible refine (cw_effects SD.out).mono ?_
                          rintro e w30 ⟨vk, rfl, hr, hb⟩
                          obtain ⟨Ak, ck, rfl, -, -⟩ := F_row hr
                          rw [hd]
                          have SF := Lib.hid (SD.out.below hb)
                          have LNF := Lib.hid ((LN_17.out).below (Below.trans (Below.refl w17.heap.size w17).drew hb) (LN_17.out).lt)
                          have LAF := Lib.hid ((LA_17.out).below (Below.trans (Below.refl w17.heap.size w17).drew hb) (LA_17.out).lt)
                          clear hr hb
                          refine hK.out _ _ (⟨LNF.out, LAF.out⟩) (fun hH9 => ?_)
                          clear hK K hH1
                          try simp only [Act.put, List.setIfInBounds_toArray, List.set_cons_zero, List.set_cons_succ]
                          refine Fe.any_take 24 99 ?vt165 rfl rfl (by kernel_rfl) (by kernel_rfl) (by kernel_rfl) (fun _ _ _ h => h) (by rfl) ?ht165 hH9 ?rt165
                          case ht165 => ((intro W hSw); obtain ⟨n0, n1, n2, n3, n4, n5, n6, n7, n8, n9, n10⟩ := hSw.1.cells11; obtain ⟨a0, a1, a2, a3, a4, a5, a6, a7, a8, a9, a10⟩ := hSw.2.cells11; go_simp; (try with_reducible rfl))
                          try simp only [Act.put, List.setIfInBounds_toArray, List.set_cons_zero, List.set_cons_succ]
                          refine Fe.any_take 28 103 ?vt166 rfl rfl (by kernel_rfl) (by kernel_rfl) (by kernel_rfl) (fun _ _ _ h => h) (by rfl) ?ht166 hH9 ?rt166
                          case ht166 => ((intro W hSw); obtain ⟨n0, n1, n2, n3, n4, n5, n6, n7, n8, n9, n10⟩ := hSw.1.cells11; obtain ⟨a0, a1, a2, a3, a4, a5, a6, a7, a8, a9, a10⟩ := hSw.2.cells11; go_simp; (try with_reducible rfl))
                          try simp only [Act.put, List.setIfInBounds_toArray, List.set_cons_zero, List.set_cons_succ]
                          refine Fe.any_take 29 104 ?vt167 rfl rfl (by kernel_rfl) (by kernel_rfl) (by kernel_rfl) (fun _ _ _ h => h) (by rfl) ?ht167 hH9 ?rt167
                          case ht167 => ((intro W hSw); obtain ⟨n0, n1, n2, n3, n4, n5, n6, n7, n8, n9, n10⟩ := hSw.1.cells11; obtain ⟨a0, a1, a2, a3, a4, a5, a6, a7, a8, a9, a10⟩ := hSw.2.cells11; go_simp; (try with_reducible rfl))
                          try simp only [Act.put, List.setIfInBounds_toArray, List.set_cons_zero, List.set_cons_succ]
                          refine Fe.any_take 30 105 ?vt168 rfl rfl (by kernel_rfl) (by kernel_rfl) (by kernel_rfl) (fun _ _ _ h => h) (by rfl) ?ht168 hH9 ?rt168
                          case ht168 => ((intro W hSw); obtain ⟨n0, n1, n2, n3, n4, n5, n6, n7, n8, n9, n10⟩ := hSw.1.cells11; obtain ⟨a0, a1, a2, a3, a4, a5, a6, a7, a8, a9, a10⟩ := hSw.2.cells11; go_simp; (try with_reducible rfl))
                          try simp only [Act.put, List.setIfInBounds_toArray, List.set_cons_zero, List.set_cons_succ]
                          clear hH9
                          refine wpAnyH_done (by kernel_rfl) ?_ _
                          refine NoPanic.normal ?_
                          go_wp2
                          go_roundw
                          case rel => exact ⟨j + 1, b2, q2, by omega, by omega, by go_num, SF.out⟩
                          case measure => simp [intOf]; omega
                      case ord2 =>
                        as_aux_lemma =>
                          obtain ⟨n0, n1, n2, n3, n4, n5, n6, n7, n8, n9, n10⟩ := LN_17.out.cells11
                          go_simp
                          refine hK.out _ _ (⟨LN_17.out, LA_17.out⟩) (fun hH1 => ?_)
                          clear hK K hH0 n0 n1 n2 n3 n4 n5 n6 n7 n8 n9 n10
                          try simp only [Act.put, List.setIfInBounds_toArray, List.set_cons_zero, List.set_cons_succ]
                          refine wpAnyH_ready (rs := [7]) (by kernel_rfl) (by simp) ?_
                          refine AllReadyH.cons rfl (fun K hK => ?_) AllReadyH.nil
                          go_simp
                          go_at_call 26
                          with_reducible refine (cw_epoch SD.out).mono ?_
                          rintro e _ ⟨rfl, rfl⟩
                          rw [eep]
                          refine hK.out _ _ (⟨LN_17.out, LA_17.out⟩) (fun hH2 => ?_)
                          clear hK K hH1
                          try simp only [Act.put, List.setIfInBounds_toArray, List.set_cons_zero, List.set_cons_succ]
                          refine Fe.any_take 10 85 ?vt169 rfl rfl (by kernel_rfl) (by kernel_rfl) (by kernel_rfl) (fun _ _ _ h => h) (by rfl) ?ht169 hH2 ?rt169
                          case ht169 => ((intro W hSw); obtain ⟨n0, n1, n2, n3, n4, n5, n6, n7, n8, n9, n10⟩ := hSw.1.cells11; obtain ⟨a0, a1, a2, a3, a4, a5, a6, a7, a8, a9, a10⟩ := hSw.2.cells11; go_simp; (try with_reducible rfl))
                          try simp only [Act.put, List.setIfInBounds_toArray, List.set_cons_zero, List.set_cons_succ]
                          refine Fe.any_take 11 86 ?vt170 rfl rfl (by kernel_rfl) (by kernel_rfl) (by kernel_rfl) (fun _ _ _ h => h) (by rfl) ?ht170 hH2 ?rt170
                          case ht170 => ((intro W hSw); obtain ⟨n0, n1, n2, n3, n4, n5, n6, n7, n8, n9, n10⟩ := hSw.1.cells11; obtain ⟨a0, a1, a2, a3, a4, a5, a6, a7, a8, a9, a10⟩ := hSw.2.cells11; go_simp; (try with_reducible rfl))
                          try simp only [Act.put, List.setIfInBounds_toArray, List.set_cons_zero, List.set_cons_succ]
                          refine Fe.any_take 12 87 ?vt171 rfl rfl (by kernel_rfl) (by kernel_rfl) (by kernel_rfl) (fun _ _ _ h => h) (by rfl) ?ht171 hH2 ?rt171
                          case ht171 => ((intro W hSw); obtain ⟨n0, n1, n2, n3, n4, n5, n6, n7, n8, n9, n10⟩ := hSw.1.cells11; obtain ⟨a0, a1, a2, a3, a4, a5, a6, a7, a8, a9, a10⟩ := hSw.2.cells11; go_simp; (try with_reducible rfl))
                          try simp only [Act.put, List.setIfInBounds_toArray, List.set_cons_zero, List.set_cons_succ]
                          refine Fe.any_take 13 88 ?vt172 rfl rfl (by kernel_rfl) (by kernel_rfl) (by kernel_rfl) (fun _ _ _ h => h) (by rfl) ?ht172 hH2 ?rt172
                          case ht172 => ((intro W hSw); obtain ⟨n0, n1, n2, n3, n4, n5, n6, n7, n8, n9, n10⟩ := hSw.1.cells11; obtain ⟨a0, a1, a2, a3, a4, a5, a6, a7, a8, a9, a10⟩ := hSw.2.cells11; go_simp; (try with_reducible rfl))
                          try simp only [Act.put, List.setIfInBounds_toArray, List.set_cons_zero, List.set_cons_succ]
                          refine Fe.any_take 14 89 ?vt173 rfl rfl (by kernel_rfl) (by kernel_rfl) (by kernel_rfl) (fun _ _ _ h => h) (by rfl) ?ht173 hH2 ?rt173
                          case ht173 => ((intro W hSw); obtain ⟨n0, n1, n2, n3, n4, n5, n6, n7, n8, n9, n10⟩ := hSw.1.cells11; obtain ⟨a0, a1, a2, a3, a4, a5, a6, a7, a8, a9, a10⟩ := hSw.2.cells11; go_simp; (try with_reducible rfl))
                          try simp only [Act.put, List.setIfInBounds_toArray, List.set_cons_zero, List.set_cons_succ]
                          refine Fe.any_take 15 90 ?vt174 rfl rfl (by kernel_rfl) (by kernel_rfl) (by kernel_rfl) (fun _ _ _ h => h) (by rfl) ?ht174 hH2 ?rt174
                          case ht174 => ((intro W hSw); obtain ⟨n0, n1, n2, n3, n4, n5, n6, n7, n8, n9, n10⟩ := hSw.1.cells11; obtain ⟨a0, a1, a2, a3, a4, a5, a6, a7, a8, a9, a10⟩ := hSw.2.cells11; go_simp; (try with_reducible rfl))
                          try simp only [Act.put, List.setIfInBounds_toArray, List.set_cons_zero, List.set_cons_succ]
                          refine Fe.any_take 16 91 ?vt175 rfl rfl (by kernel_rfl) (by kernel_rfl) (by kernel_rfl) (fun _ _ _ h => h) (by rfl) ?ht175 hH2 ?rt175
                          case ht175 => ((intro W hSw); obtain ⟨n0, n1, n2, n3, n4, n5, n6, n7, n8, n9, n10⟩ := hSw.1.cells11; obtain ⟨a0, a1, a2, a3, a4, a5, a6, a7, a8, a9, a10⟩ := hSw.2.cells11; go_simp; (try with_reducible rfl))
                          try simp only [Act.put, List.setIfInBounds_toArray, List.set_cons_zero, List.set_cons_succ]
                          refine Fe.any_take 17 92 ?vt176 rfl rfl (by kernel_rfl) (by kernel_rfl) (by kernel_rfl) (fun _ _ _ h => h) (by rfl) ?ht176 hH2 ?rt176
                          case ht176 => ((intro W hSw); obtain ⟨n0, n1, n2, n3, n4, n5, n6, n7, n8, n9, n10⟩ := hSw.1.cells11; obtain ⟨a0, a1, a2, a3, a4, a5, a6, a7, a8, a9, a10⟩ := hSw.2.cells11; go_simp; (try with_reducible rfl))
                          try simp only [Act.put, List.setIfInBounds_toArray, List.set_cons_zero, List.set_cons_succ]
                          refine Fe.any_take 18 93 ?vt177 rfl rfl (by kernel_rfl) (by kernel_rfl) (by kernel_rfl) (fun _ _ _ h => h) (by rfl) ?ht177 hH2 ?rt177
                          case ht177 => ((intro W hSw); obtain ⟨n0, n1, n2, n3, n4, n5, n6, n7, n8, n9, n10⟩ := hSw.1.cells11; obtain ⟨a0, a1, a2, a3, a4, a5, a6, a7, a8, a9, a10⟩ := hSw.2.cells11; go_simp; (try with_reducible rfl))
                          try simp only [Act.put, List.setIfInBounds_toArray, List.set_cons_zero, List.set_cons_succ]
                          refine Fe.any_take 19 94 ?vt178 rfl rfl (by kernel_rfl) (by kernel_rfl) (by kernel_rfl) (fun _ _ _ h => h) (by rfl) ?ht178 hH2 ?rt178
                          case ht178 => ((intro W hSw); obtain ⟨n0, n1, n2, n3, n4, n5, n6, n7, n8, n9, n10⟩ := hSw.1.cells11; obtain ⟨a0, a1, a2, a3, a4, a5, a6, a7, a8, a9, a10⟩ := hSw.2.cells11; go_simp; (try with_reducible rfl))
                          try simp only [Act.put, List.setIfInBounds_toArray, List.set_cons_zero, List.set_cons_succ]
                          refine Fe.any_take 20 95 ?vt179 rfl rfl (by kernel_rfl) (by kernel_rfl) (by kernel_rfl) (fun _ _ _ h => h) (by rfl) ?ht179 hH2 ?rt179
                          case ht179 => ((intro W hSw); obtain ⟨n0, n1, n2, n3, n4, n5, n6, n7, n8, n9, n10⟩ := hSw.1.cells11; obtain ⟨a0, a1, a2, a3, a4, a5, a6, a7, a8, a9, a10⟩ := hSw.2.cells11; go_simp; (try with_reducible rfl))
                          try simp only [Act.put, List.setIfInBounds_toArray, List.set_cons_zero, List.set_cons_succ]
                          refine Fe.any_take 21 96 ?vt180 rfl rfl (by kernel_rfl) (by kernel_rfl) (by kernel_rfl) (fun _ _ _ h => h) (by rfl) ?ht180 hH2 ?rt180
                          case ht180 => ((intro W hSw); obtain ⟨n0, n1, n2, n3, n4, n5, n6, n7, n8, n9, n10⟩ := hSw.1.cells11; obtain ⟨a0, a1, a2, a3, a4, a5, a6, a7, a8, a9, a10⟩ := hSw.2.cells11; go_simp; (try with_reducible rfl))
                          try simp only [Act.put, List.setIfInBounds_toArray, List.set_cons_zero, List.set_cons_succ]
                          refine Fe.any_take 22 97 ?vt181 rfl rfl (by kernel_rfl) (by kernel_rfl) (by kernel_rfl) (fun _ _ _ h => h) (by rfl) ?ht181 hH2 ?rt181
                          case ht181 => ((intro W hSw); obtain ⟨n0, n1, n2, n3, n4, n5, n6, n7, n8, n9, n10⟩ := hSw.1.cells11; obtain ⟨a0, a1, a2, a3, a4, a5, a6, a7, a8, a9, a10⟩ := hSw.2.cells11; go_simp; (try with_reducible rfl))
                          try simp only [Act.put, List.setIfInBounds_toArray, List.set_cons_zero, List.set_cons_succ]
                          refine Fe.any_take 25 100 ?vt182 rfl rfl (by kernel_rfl) (by kernel_rfl) (by kernel_rfl) (fun _ _ _ h => h) (by rfl) ?ht182 hH2 ?rt182
                          case ht182 => ((intro W hSw); obtain ⟨n0, n1, n2, n3, n4, n5, n6, n7, n8, n9, n10⟩ := hSw.1.cells11; obtain ⟨a0, a1, a2, a3, a4, a5, a6, a7, a8, a9, a10⟩ := hSw.2.cells11; go_simp; (try with_reducible rfl))
                          try simp only [Act.put, List.setIfInBounds_toArray, List.set_cons_zero, List.set_cons_succ]
                          refine Fe.any_take 26 101 ?vt183 rfl rfl (by kernel_rfl) (by kernel_rfl) (by kernel_rfl) (fun _ _ _ h => h) (by rfl) ?ht183 hH2 ?rt183
                          case ht183 => ((intro W hSw); obtain ⟨n0, n1, n2, n3, n4, n5, n6, n7, n8, n9, n10⟩ := hSw.1.cells11; obtain ⟨a0, a1, a2, a3, a4, a5, a6, a7, a8, a9, a10⟩ := hSw.2.cells11; go_simp; (try with_reducible rfl))
                          try simp only [Act.put, List.setIfInBounds_toArray, List.set_cons_zero, List.set_cons_succ]
                          refine Fe.any_take 27 102 ?vt184 rfl rfl (by kernel_rfl) (by kernel_rfl) (by kernel_rfl) (fun _ _ _ h => h) (by rfl) ?ht184 hH2 ?rt184
                          case ht184 => ((intro W hSw); obtain ⟨n0, n1, n2, n3, n4, n5, n6, n7, n8, n9, n10⟩ := hSw.1.cells11; obtain ⟨a0, a1, a2, a3, a4, a5, a6, a7, a8, a9, a10⟩ := hSw.2.cells11; go_simp; (try with_reducible rfl))
                          try simp only [Act.put, List.setIfInBounds_toArray, List.set_cons_zero, List.set_cons_succ]
                          refine wpAnyH_ready (rs := [23]) (by kernel_rfl) (by simp) ?_
                          refine AllReadyH.cons rfl (fun K hK => ?_) AllReadyH.nil
                          go_simp
                          go_at_call 29
                          with_reducible refine (cw_effects SD.out).mono ?_
                          rintro e w30 ⟨vk, rfl, hr, hb⟩
                          obtain ⟨Ak, ck, rfl, -, -⟩ := F_row hr
                          rw [hd]
                          have SF := Lib.hid (SD.out.below hb)
                          have LNF := Lib.hid ((LN_17.out).below (Below.trans (Below.refl w17.heap.size w17).drew hb) (LN_17.out).lt)
                          have LAF := Lib.hid ((LA_17.out).below (Below.trans (Below.refl w17.heap.size w17).drew hb) (LA_17.out).lt)
                          clear hr hb
                          refine hK.out _ _ (⟨LNF.out, LAF.out⟩) (fun hH9 => ?_)
                          clear hK K hH2
                          try simp only [Act.put, List.setIfInBounds_toArray, List.set_cons_zero, List.set_cons_succ]
                          refine Fe.any_take 24 99 ?vt185 rfl rfl (by kernel_rfl) (by kernel_rfl) (by kernel_rfl) (fun _ _ _ h => h) (by rfl) ?ht185 hH9 ?rt185
                          case ht185 => ((intro W hSw); obtain ⟨n0, n1, n2, n3, n4, n5, n6, n7, n8, n9, n10⟩ := hSw.1.cells11; obtain ⟨a0, a1, a2, a3, a4, a5, a6, a7, a8, a9, a10⟩ := hSw.2.cells11; go_simp; (try with_reducible rfl))
                          try simp only [Act.put, List.setIfInBounds_toArray, List.set_cons_zero, List.set_cons_succ]
                          refine Fe.any_take 28 103 ?vt186 rfl rfl (by kernel_rfl) (by kernel_rfl) (by kernel_rfl) (fun _ _ _ h => h) (by rfl) ?ht186 hH9 ?rt186
                          case ht186 => ((intro W hSw); obtain ⟨n0, n1, n2, n3, n4, n5, n6, n7, n8, n9, n10⟩ := hSw.1.cells11; obtain ⟨a0, a1, a2, a3, a4, a5, a6, a7, a8, a9, a10⟩ := hSw.2.cells11; go_simp; (try with_reducible rfl))
                          try simp only [Act.put, List.setIfInBounds_toArray, List.set_cons_zero, List.set_cons_succ]
                          refine Fe.any_take 29 104 ?vt187 rfl rfl (by kernel_rfl) (by kernel_rfl) (by kernel_rfl) (fun _ _ _ h => h) (by rfl) ?ht187 hH9 ?rt187
                          case ht187 => ((intro W hSw); obtain ⟨n0, n1, n2, n3, n4, n5, n6, n7, n8, n9, n10⟩ := hSw.1.cells11; obtain ⟨a0, a1, a2, a3, a4, a5, a6, a7, a8, a9, a10⟩ := hSw.2.cells11; go_simp; (try with_reducible rfl))
                          try simp only [Act.put, List.setIfInBounds_toArray, List.set_cons_zero, List.set_cons_succ]
                          refine Fe.any_take 30 105 ?vt188 rfl rfl (by kernel_rfl) (by kernel_rfl) (by kernel_rfl) (fun _ _ _ h => h) (by rfl) ?ht188 hH9 ?rt188
                          case ht188 => ((intro W hSw); obtain ⟨n0, n1, n2, n3, n4, n5, n6, n7, n8, n9, n10⟩ := hSw.1.cells11; obtain ⟨a0, a1, a2, a3, a4, a5, a6, a7, a8, a9, a10⟩ := hSw.2.cells11; go_simp; (try with_reducible rfl))
                          try simp only [Act.put, List.setIfInBounds_toArray, List.set_cons_zero, List.set_cons_succ]
                          clear hH9
                          refine wpAnyH_done (by kernel_rfl) ?_ _
                          refine NoPanic.normal ?_
                          go_wp2
                          go_roundw
                          case rel => exact ⟨j + 1, b2, q2, by omega, by omega, by go_num, SF.out⟩
                          case measure => simp [intOf]; omega
                    · obtain ⟨n0, n1, n2, n3, n4, n5, n6, n7, n8, n9, n10⟩ := LN_17.out.cells11
                      obtain ⟨a0, a1, a2, a3, a4, a5, a6, a7, a8, a9, a10⟩ := LA_17.out.cells11
                      have d1 : decide ((ep : Int) < (q.f.ep : Int)) = false := by simp; exact ele
                      have d1b : decide (ep < q.f.ep) = false := decide_eq_false (Nat.not_lt.2 ele)
                      have SD := Lib.hid (S_17.out.below (Below.refl w17.heap.size w17).drew)
                      have hw : IntKind.i64.wrap ((q.E.length : Int) + 1) = (q.E.length : Int) + 1 := IntWalk.i64_in _ (by have := HEL.out; omega)
                      have fE : (((q.E.length + 1 : Nat) : Int) == (q.E.length : Int) + 1) = true := by simp
                      go_wp2_with fail
                      refine wp_region_noPanic ?_
                      refine wp_region_held_drew (S := fun W => Lies W w5.heap.size 55 #[.int .i64 7, .int .u32 (ep : Int), .int .u32 0, .int .u64 0, .int .u64 0, .int .u32 (x.o : Int), .int .i64 x.s, .bool x.u, .int .i64 0, .slice none 0 0, .slice A2 (askD x).length c2] ∧ Lies W w10.heap.size 55 #[.int .i64 8, .int .u32 (ep : Int), .int .u32 0, .int .u64 0, .int .u64 0, .int .u32 (x.o : Int), .int .i64 x.s, .bool x.u, .int .i64 v, .slice none 0 0, .slice A4 r.length c4]) (by kernel_rfl) (⟨LN_17.out, LA_17.out⟩) (fun hH0 => ?_)
                      refine Fe.any_take 0 75 ?vt190 rfl rfl (by kernel_rfl) (by kernel_rfl) (by kernel_rfl) (fun _ _ _ h => h) (by rfl) ?ht190 hH0 ?rt190
                      case ht190 => ((intro W hSw); obtain ⟨n0, n1, n2, n3, n4, n5, n6, n7, n8, n9, n10⟩ := hSw.1.cells11; obtain ⟨a0, a1, a2, a3, a4, a5, a6, a7, a8, a9, a10⟩ := hSw.2.cells11; go_simp; (try with_reducible rfl))
                      try simp only [Act.put, List.setIfInBounds_toArray, List.set_cons_zero, List.set_cons_succ]
                      refine Fe.any_take 1 76 ?vt191 rfl rfl (by kernel_rfl) (by kernel_rfl) (by kernel_rfl) (fun _ _ _ h => h) (by rfl) ?ht191 hH0 ?rt191
                      case ht191 => ((intro W hSw); obtain ⟨n0, n1, n2, n3, n4, n5, n6, n7, n8, n9, n10⟩ := hSw.1.cells11; obtain ⟨a0, a1, a2, a3, a4, a5, a6, a7, a8, a9, a10⟩ := hSw.2.cells11; go_simp; (try with_reducible rfl))
                      try simp only [Act.put, List.setIfInBounds_toArray, List.set_cons_zero, List.set_cons_succ]
                      refine Fe.any_take 2 77 ?vt192 rfl rfl (by kernel_rfl) (by kernel_rfl) (by kernel_rfl) (fun _ _ _ h => h) (by rfl) ?ht192 hH0 ?rt192
                      case ht192 => ((intro W hSw); obtain ⟨n0, n1, n2, n3, n4, n5, n6, n7, n8, n9, n10⟩ := hSw.1.cells11; obtain ⟨a0, a1, a2, a3, a4, a5, a6, a7, a8, a9, a10⟩ := hSw.2.cells11; go_simp; (try with_reducible rfl))
                      try simp only [Act.put, List.setIfInBounds_toArray, List.set_cons_zero, List.set_cons_succ]
                      refine Fe.any_take 3 78 ?vt193 rfl rfl (by kernel_rfl) (by kernel_rfl) (by kernel_rfl) (fun _ _ _ h => h) (by rfl) ?ht193 hH0 ?rt193
                      case ht193 => ((intro W hSw); obtain ⟨n0, n1, n2, n3, n4, n5, n6, n7, n8, n9, n10⟩ := hSw.1.cells11; obtain ⟨a0, a1, a2, a3, a4, a5, a6, a7, a8, a9, a10⟩ := hSw.2.cells11; go_simp; (try with_reducible rfl))
                      try simp only [Act.put, List.setIfInBounds_toArray, List.set_cons_zero, List.set_cons_succ]
                      refine Fe.any_take 4 79 ?vt194 rfl rfl (by kernel_rfl) (by kernel_rfl) (by kernel_rfl) (fun _ _ _ h => h) (by rfl) ?ht194 hH0 ?rt194
                      case ht194 => ((intro W hSw); obtain ⟨n0, n1, n2, n3, n4, n5, n6, n7, n8, n9, n10⟩ := hSw.1.cells11; obtain ⟨a0, a1, a2, a3, a4, a5, a6, a7, a8, a9, a10⟩ := hSw.2.cells11; go_simp; (try with_reducible rfl))
                      try simp only [Act.put, List.setIfInBounds_toArray, List.set_cons_zero, List.set_cons_succ]
                      refine Fe.any_take 5 80 ?vt195 rfl rfl (by kernel_rfl) (by kernel_rfl) (by kernel_rfl) (fun _ _ _ h => h) (by rfl) ?ht195 hH0 ?rt195
                      case ht195 => ((intro W hSw); obtain ⟨n0, n1, n2, n3, n4, n5, n6, n7, n8, n9, n10⟩ := hSw.1.cells11; obtain ⟨a0, a1, a2, a3, a4, a5, a6, a7, a8, a9, a10⟩ := hSw.2.cells11; go_simp; (try with_reducible rfl))
                      try simp only [Act.put, List.setIfInBounds_toArray, List.set_cons_zero, List.set_cons_succ]
                      refine Fe.any_take 6 81 ?vt196 rfl rfl (by kernel_rfl) (by kernel_rfl) (by kernel_rfl) (fun _ _ _ h => h) (by rfl) ?ht196 hH0 ?rt196
                      case ht196 => ((intro W hSw); obtain ⟨n0, n1, n2, n3, n4, n5, n6, n7, n8, n9, n10⟩ := hSw.1.cells11; obtain ⟨a0, a1, a2, a3, a4, a5, a6, a7, a8, a9, a10⟩ := hSw.2.cells11; go_simp; (try with_reducible rfl))
                      try simp only [Act.put, List.setIfInBounds_toArray, List.set_cons_zero, List.set_cons_succ]
                      refine Fe.any_take 8 83 ?vt197 rfl rfl (by kernel_rfl) (by kernel_rfl) (by kernel_rfl) (fun _ _ _ h => h) (by rfl) ?ht197 hH0 ?rt197
                      case ht197 => ((intro W hSw); obtain ⟨n0, n1, n2, n3, n4, n5, n6, n7, n8, n9, n10⟩ := hSw.1.cells11; obtain ⟨a0, a1, a2, a3, a4, a5, a6, a7, a8, a9, a10⟩ := hSw.2.cells11; go_simp; (try with_reducible rfl))
                      try simp only [Act.put, List.setIfInBounds_toArray, List.set_cons_zero, List.set_cons_succ]
                      refine wpAnyH_ready (rs := [7, 9]) (by kernel_rfl) (by simp) ?_
                      refine AllReadyH.cons rfl (fun K hK => ?ord1) (AllReadyH.cons rfl (fun K hK => ?ord2) AllReadyH.nil)
                      case ord1 =>
                        as_aux_lemma =>
                          go_simp
                          go_at_call 26
                          with_reducible refine (cw_epoch SD.out).mono ?_
                          rintro e _ ⟨rfl, rfl⟩
                          rw [eep]
                          refine hK.out _ _ (⟨LN_17.out, LA_17.out⟩) (fun hH1 => ?_)
                          clear hK K hH0
                          try simp only [Act.put, List.setIfInBounds_toArray, List.set_cons_zero, List.set_cons_succ]
                          refine Fe.any_take 9 84 ?vt198 rfl rfl (by kernel_rfl) (by kernel_rfl) (by kernel_rfl) (fun _ _ _ h => h) (by rfl) ?ht198 hH1 ?rt198
                          case ht198 => ((intro W hSw); obtain ⟨n0, n1, n2, n3, n4, n5, n6, n7, n8, n9, n10⟩ := hSw.1.cells11; obtain ⟨a0, a1, a2, a3, a4, a5, a6, a7, a8, a9, a10⟩ := hSw.2.cells11; go_simp; (try with_reducible rfl))
                          try simp only [Act.put, List.setIfInBounds_toArray, List.set_cons_zero, List.set_cons_succ]
                          refine Fe.any_take 10 85 ?vt199 rfl rfl (by kernel_rfl) (by kernel_rfl) (by kernel_rfl) (fun _ _ _ h => h) (by rfl) ?ht199 hH1 ?rt199
                          case ht199 => ((intro W hSw); obtain ⟨n0, n1, n2, n3, n4, n5, n6, n7, n8, n9, n10⟩ := hSw.1.cells11; obtain ⟨a0, a1, a2, a3, a4, a5, a6, a7, a8, a9, a10⟩ := hSw.2.cells11; go_simp; (try with_reducible rfl))
                          try simp only [Act.put, List.setIfInBounds_toArray, List.set_cons_zero, List.set_cons_succ]
                          refine Fe.any_take 11 86 ?vt200 rfl rfl (by kernel_rfl) (by kernel_rfl) (by kernel_rfl) (fun _ _ _ h => h) (by rfl) ?ht200 hH1 ?rt200
                          case ht200 => ((intro W hSw); obtain ⟨n0, n1, n2, n3, n4, n5, n6, n7, n8, n9, n10⟩ := hSw.1.cells11; obtain ⟨a0, a1, a2, a3, a4, a5, a6, a7, a8, a9, a10⟩ := hSw.2.cells11; go_simp; (try with_reducible rfl))
                          try simp only [Act.put, List.setIfInBounds_toArray, List.set_cons_zero, List.set_cons_succ]
                          refine Fe.any_take 12 87 ?vt201 rfl rfl (by kernel_rfl) (by kernel_rfl) (by kernel_rfl) (fun _ _ _ h => h) (by rfl) ?ht201 hH1 ?rt201
                          case ht201 => ((intro W hSw); obtain ⟨n0, n1, n2, n3, n4, n5, n6, n7, n8, n9, n10⟩ := hSw.1.cells11; obtain ⟨a0, a1, a2, a3, a4, a5, a6, a7, a8, a9, a10⟩ := hSw.2.cells11; go_simp; (try with_reducible rfl))
                          try simp only [Act.put, List.setIfInBounds_toArray, List.set_cons_zero, List.set_cons_succ]
                          refine Fe.any_take 13 88 ?vt202 rfl rfl (by kernel_rfl) (by kernel_rfl) (by kernel_rfl) (fun _ _ _ h => h) (by rfl) ?ht202 hH1 ?rt202
                          case ht202 => ((intro W hSw); obtain ⟨n0, n1, n2, n3, n4, n5, n6, n7, n8, n9, n10⟩ := hSw.1.cells11; obtain ⟨a0, a1, a2, a3, a4, a5, a6, a7, a8, a9, a10⟩ := hSw.2.cells11; go_simp; (try with_reducible rfl))
                          try simp only [Act.put, List.setIfInBounds_toArray, List.set_cons_zero, List.set_cons_succ]
                          refine Fe.any_take 14 89 ?vt203 rfl rfl (by kernel_rfl) (by kernel_rfl) (by kernel_rfl) (fun _ _ _ h => h) (by rfl) ?ht203 hH1 ?rt203
                          case ht203 => ((intro W hSw); obtain ⟨n0, n1, n2, n3, n4, n5, n6, n7, n8, n9, n10⟩ := hSw.1.cells11; obtain ⟨a0, a1, a2, a3, a4, a5, a6, a7, a8, a9, a10⟩ := hSw.2.cells11; go_simp; (try with_reducible rfl))
                          try simp only [Act.put, List.setIfInBounds_toArray, List.set_cons_zero, List.set_cons_succ]
                          refine Fe.any_take 15 90 ?vt204 rfl rfl (by kernel_rfl) (by kernel_rfl) (by kernel_rfl) (fun _ _ _ h => h) (by rfl) ?ht204 hH1 ?rt204
                          case ht204 => ((intro W hSw); obtain ⟨n0, n1, n2, n3, n4, n5, n6, n7, n8, n9, n10⟩ := hSw.1.cells11; obtain ⟨a0, a1, a2, a3, a4, a5, a6, a7, a8, a9, a10⟩ := hSw.2.cells11; go_simp; (try with_reducible rfl))
                          try simp only [Act.put, List.setIfInBounds_toArray, List.set_cons_zero, List.set_cons_succ]
                          refine Fe.any_take 16 91 ?vt205 rfl rfl (by kernel_rfl) (by kernel_rfl) (by kernel_rfl) (fun _ _ _ h => h) (by rfl) ?ht205 hH1 ?rt205
                          case ht205 => ((intro W hSw); obtain ⟨n0, n1, n2, n3, n4, n5, n6, n7, n8, n9, n10⟩ := hSw.1.cells11; obtain ⟨a0, a1, a2, a3, a4, a5, a6, a7, a8, a9, a10⟩ := hSw.2.cells11; go_simp; (try with_reducible rfl))
                          try simp only [Act.put, List.setIfInBounds_toArray, List.set_cons_zero, List.set_cons_succ]
                          refine Fe.any_take 17 92 ?vt206 rfl rfl (by kernel_rfl) (by kernel_rfl) (by kernel_rfl) (fun _ _ _ h => h) (by rfl) ?ht206 hH1 ?rt206
                          case ht206 => ((intro W hSw); obtain ⟨n0, n1, n2, n3, n4, n5, n6, n7, n8, n9, n10⟩ := hSw.1.cells11; obtain ⟨a0, a1, a2, a3, a4, a5, a6, a7, a8, a9, a10⟩ := hSw.2.cells11; go_simp; (try with_reducible rfl))
                          try simp only [Act.put, List.setIfInBounds_toArray, List.set_cons_zero, List.set_cons_succ]
                          refine Fe.any_take 18 93 ?vt207 rfl rfl (by kernel_rfl) (by kernel_rfl) (by kernel_rfl) (fun _ _ _ h => h) (by rfl) ?ht207 hH1 ?rt207
                          case ht207 => ((intro W hSw); obtain ⟨n0, n1, n2, n3, n4, n5, n6, n7, n8, n9, n10⟩ := hSw.1.cells11; obtain ⟨a0, a1, a2, a3, a4, a5, a6, a7, a8, a9, a10⟩ := hSw.2.cells11; go_simp; (try with_reducible rfl))
                          try simp only [Act.put, List.setIfInBounds_toArray, List.set_cons_zero, List.set_cons_succ]
                          refine Fe.any_take 19 94 ?vt208 rfl rfl (by kernel_rfl) (by kernel_rfl) (by kernel_rfl) (fun _ _ _ h => h) (by rfl) ?ht208 hH1 ?rt208
                          case ht208 => ((intro W hSw); obtain ⟨n0, n1, n2, n3, n4, n5, n6, n7, n8, n9, n10⟩ := hSw.1.cells11; obtain ⟨a0, a1, a2, a3, a4, a5, a6, a7, a8, a9, a10⟩ := hSw.2.cells11; go_simp; (try with_reducible rfl))
                          try simp only [Act.put, List.setIfInBounds_toArray, List.set_cons_zero, List.set_cons_succ]
                          refine Fe.any_take 20 95 ?vt209 rfl rfl (by kernel_rfl) (by kernel_rfl) (by kernel_rfl) (fun _ _ _ h => h) (by rfl) ?ht209 hH1 ?rt209
                          case ht209 => ((intro W hSw); obtain ⟨n0, n1, n2, n3, n4, n5, n6, n7, n8, n9, n10⟩ := hSw.1.cells11; obtain ⟨a0, a1, a2, a3, a4, a5, a6, a7, a8, a9, a10⟩ := hSw.2.cells11; go_simp; (try with_reducible rfl))
                          try simp only [Act.put, List.setIfInBounds_toArray, List.set_cons_zero, List.set_cons_succ]
                          refine Fe.any_take 21 96 ?vt210 rfl rfl (by kernel_rfl) (by kernel_rfl) (by kernel_rfl) (fun _ _ _ h => h) (by rfl) ?ht210 hH1 ?rt210
                          case ht210 => ((intro W hSw); obtain ⟨n0, n1, n2, n3, n4, n5, n6, n7, n8, n9, n10⟩ := hSw.1.cells11; obtain ⟨a0, a1, a2, a3, a4, a5, a6, a7, a8, a9, a10⟩ := hSw.2.cells11; go_simp; (try with_reducible rfl))
                          try simp only [Act.put, List.setIfInBounds_toArray, List.set_cons_zero, List.set_cons_succ]
                          refine Fe.any_skip 22 97 rfl rfl (by kernel_rfl) (by kernel_rfl) (by kernel_rfl) (fun _ _ _ h => h) (by rfl) hH1 ?_
                          try simp only [Act.put, List.setIfInBounds_toArray, List.set_cons_zero, List.set_cons_succ]
                          refine Fe.any_skip 23 98 rfl rfl (by kernel_rfl) (by kernel_rfl) (by kernel_rfl) (fun _ _ _ h => h) (by rfl) hH1 ?_
                          try simp only [Act.put, List.setIfInBounds_toArray, List.set_cons_zero, List.set_cons_succ]
                          refine Fe.any_skip 24 99 rfl rfl (by kernel_rfl) (by kernel_rfl) (by kernel_rfl) (fun _ _ _ h => h) (by rfl) hH1 ?_
                          try simp only [Act.put, List.setIfInBounds_toArray, List.set_cons_zero, List.set_cons_succ]
                          refine Fe.any_skip 25 100 rfl rfl (by kernel_rfl) (by kernel_rfl) (by kernel_rfl) (fun _ _ _ h => h) (by rfl) hH1 ?_
                          try simp only [Act.put, List.setIfInBounds_toArray, List.set_cons_zero, List.set_cons_succ]
                          refine Fe.any_skip 26 101 rfl rfl (by kernel_rfl) (by kernel_rfl) (by kernel_rfl) (fun _ _ _ h => h) (by rfl) hH1 ?_
                          try simp only [Act.put, List.setIfInBounds_toArray, List.set_cons_zero, List.set_cons_succ]
                          refine Fe.any_skip 27 102 rfl rfl (by kernel_rfl) (by kernel_rfl) (by kernel_rfl) (fun _ _ _ h => h) (by rfl) hH1 ?_
                          try simp only [Act.put, List.setIfInBounds_toArray, List.set_cons_zero, List.set_cons_succ]
                          refine Fe.any_skip 28 103 rfl rfl (by kernel_rfl) (by kernel_rfl) (by kernel_rfl) (fun _ _ _ h => h) (by rfl) hH1 ?_
                          try simp only [Act.put, List.setIfInBounds_toArray, List.set_cons_zero, List.set_cons_succ]
                          refine Fe.any_take 29 104 ?vt211 rfl rfl (by kernel_rfl) (by kernel_rfl) (by kernel_rfl) (fun _ _ _ h => h) (by rfl) ?ht211 hH1 ?rt211
                          case ht211 => ((intro W hSw); obtain ⟨n0, n1, n2, n3, n4, n5, n6, n7, n8, n9, n10⟩ := hSw.1.cells11; obtain ⟨a0, a1, a2, a3, a4, a5, a6, a7, a8, a9, a10⟩ := hSw.2.cells11; go_simp; (try with_reducible rfl))
                          try simp only [Act.put, List.setIfInBounds_toArray, List.set_cons_zero, List.set_cons_succ]
                          refine Fe.any_take 30 105 ?vt212 rfl rfl (by kernel_rfl) (by kernel_rfl) (by kernel_rfl) (fun _ _ _ h => h) (by rfl) ?ht212 hH1 ?rt212
                          case ht212 => ((intro W hSw); obtain ⟨n0, n1, n2, n3, n4, n5, n6, n7, n8, n9, n10⟩ := hSw.1.cells11; obtain ⟨a0, a1, a2, a3, a4, a5, a6, a7, a8, a9, a10⟩ := hSw.2.cells11; go_simp; (try with_reducible rfl))
                          try simp only [Act.put, List.setIfInBounds_toArray, List.set_cons_zero, List.set_cons_succ]
                          clear hH1
                          refine wpAnyH_done (by kernel_rfl) ?_ _
                          refine NoPanic.normal ?_
                          go_wp2
                          go_roundw
                          case rel => exact ⟨j + 1, b2, q2, by omega, by omega, by go_num, SD.out⟩
                          case measure => simp [intOf]; omega
                      case ord2 =>
                        as_aux_lemma =>
                          obtain ⟨n0, n1, n2, n3, n4, n5, n6, n7, n8, n9, n10⟩ := LN_17.out.cells11
                          go_simp
                          refine hK.out _ _ (⟨LN_17.out, LA_17.out⟩) (fun hH1 => ?_)
                          clear hK K hH0 n0 n1 n2 n3 n4 n5 n6 n7 n8 n9 n10
                          try simp only [Act.put, List.setIfInBounds_toArray, List.set_cons_zero, List.set_cons_succ]
                          refine wpAnyH_ready (rs := [7]) (by kernel_rfl) (by simp) ?_
                          refine AllReadyH.cons rfl (fun K hK => ?_) AllReadyH.nil
                          go_simp
                          go_at_call 26
                          with_reducible refine (cw_epoch SD.out).mono ?_
                          rintro e _ ⟨rfl, rfl⟩
                          rw [eep]
                          refine hK.out _ _ (⟨LN_17.out, LA_17.out⟩) (fun hH2 => ?_)
                          clear hK K hH1
                          try simp only [Act.put, List.setIfInBounds_toArray, List.set_cons_zero, List.set_cons_succ]
                          refine Fe.any_take 10 85 ?vt213 rfl rfl (by kernel_rfl) (by kernel_rfl) (by kernel_rfl) (fun _ _ _ h => h) (by rfl) ?ht213 hH2 ?rt213
                          case ht213 => ((intro W hSw); obtain ⟨n0, n1, n2, n3, n4, n5, n6, n7, n8, n9, n10⟩ := hSw.1.cells11; obtain ⟨a0, a1, a2, a3, a4, a5, a6, a7, a8, a9, a10⟩ := hSw.2.cells11; go_simp; (try with_reducible rfl))
                          try simp only [Act.put, List.setIfInBounds_toArray, List.set_cons_zero, List.set_cons_succ]
                          refine Fe.any_take 11 86 ?vt214 rfl rfl (by kernel_rfl) (by kernel_rfl) (by kernel_rfl) (fun _ _ _ h => h) (by rfl) ?ht214 hH2 ?rt214
                          case ht214 => ((intro W hSw); obtain ⟨n0, n1, n2, n3, n4, n5, n6, n7, n8, n9, n10⟩ := hSw.1.cells11; obtain ⟨a0, a1, a2, a3, a4, a5, a6, a7, a8, a9, a10⟩ := hSw.2.cells11; go_simp; (try with_reducible rfl))
                          try simp only [Act.put, List.setIfInBounds_toArray, List.set_cons_zero, List.set_cons_succ]
                          refine Fe.any_take 12 87 ?vt215 rfl rfl (by kernel_rfl) (by kernel_rfl) (by kernel_rfl) (fun _ _ _ h => h) (by rfl) ?ht215 hH2 ?rt215
                          case ht215 => ((intro W hSw); obtain ⟨n0, n1, n2, n3, n4, n5, n6, n7, n8, n9, n10⟩ := hSw.1.cells11; obtain ⟨a0, a1, a2, a3, a4, a5, a6, a7, a8, a9, a10⟩ := hSw.2.cells11; go_simp; (try with_reducible rfl))
                          try simp only [Act.put, List.setIfInBounds_toArray, List.set_cons_zero, List.set_cons_succ]
                          refine Fe.any_take 13 88 ?vt216 rfl rfl (by kernel_rfl) (by kernel_rfl) (by kernel_rfl) (fun _ _ _ h => h) (by rfl) ?ht216 hH2 ?rt216
                          case ht216 => ((intro W hSw); obtain ⟨n0, n1, n2, n3, n4, n5, n6, n7, n8, n9, n10⟩ := hSw.1.cells11; obtain ⟨a0, a1, a2, a3, a4, a5, a6, a7, a8, a9, a10⟩ := hSw.2.cells11; go_simp; (try with_reducible rfl))
                          try simp only [Act.put, List.setIfInBounds_toArray, List.set_cons_zero, List.set_cons_succ]
                          refine Fe.any_take 14 89 ?vt217 rfl rfl (by kernel_rfl) (by kernel_rfl) (by kernel_rfl) (fun _ _ _ h => h) (by rfl) ?ht217 hH2 ?rt217
                          case ht217 => ((intro W hSw); obtain ⟨n0, n1, n2, n3, n4, n5, n6, n7, n8, n9, n10⟩ := hSw.1.cells11; obtain ⟨a0, a1, a2, a3, a4, a5, a6, a7, a8, a9, a10⟩ := hSw.2.cells11; go_simp; (try with_reducible rfl))
                          try simp only [Act.put, List.setIfInBounds_toArray, List.set_cons_zero, List.set_cons_succ]
                          refine Fe.any_take 15 90 ?vt218 rfl rfl (by kernel_rfl) (by kernel_rfl) (by kernel_rfl) (fun _ _ _ h => h) (by rfl) ?ht218 hH2 ?rt218
                          case ht218 => ((intro W hSw); obtain ⟨n0, n1, n2, n3, n4, n5, n6, n7, n8, n9, n10⟩ := hSw.1.cells11; obtain ⟨a0, a1, a2, a3, a4, a5, a6, a7, a8, a9, a10⟩ := hSw.2.cells11; go_simp; (try with_reducible rfl))
                          try simp only [Act.put, List.setIfInBounds_toArray, List.set_cons_zero, List.set_cons_succ]
                          refine Fe.any_take 16 91 ?vt219 rfl rfl (by kernel_rfl) (by kernel_rfl) (by kernel_rfl) (fun _ _ _ h => h) (by rfl) ?ht219 hH2 ?rt219
                          case ht219 => ((intro W hSw); obtain ⟨n0, n1, n2, n3, n4, n5, n6, n7, n8, n9, n10⟩ := hSw.1.cells11; obtain ⟨a0, a1, a2, a3, a4, a5, a6, a7, a8, a9, a10⟩ := hSw.2.cells11; go_simp; (try with_reducible rfl))
                          try simp only [Act.put, List.setIfInBounds_toArray, List.set_cons_zero, List.set_cons_succ]
                          refine Fe.any_take 17 92 ?vt220 rfl rfl (by kernel_rfl) (by kernel_rfl) (by kernel_rfl) (fun _ _ _ h => h) (by rfl) ?ht220 hH2 ?rt220
                          case ht220 => ((intro W hSw); obtain ⟨n0, n1, n2, n3, n4, n5, n6, n7, n8, n9, n10⟩ := hSw.1.cells11; obtain ⟨a0, a1, a2, a3, a4, a5, a6, a7, a8, a9, a10⟩ := hSw.2.cells11; go_simp; (try with_reducible rfl))
                          try simp only [Act.put, List.setIfInBounds_toArray, List.set_cons_zero, List.set_cons_succ]
                          refine Fe.any_take 18 93 ?vt221 rfl rfl (by kernel_rfl) (by kernel_rfl) (by kernel_rfl) (fun _ _ _ h => h) (by rfl) ?ht221 hH2 ?rt221
                          case ht221 => ((intro W hSw); obtain ⟨n0, n1, n2, n3, n4, n5, n6, n7, n8, n9, n10⟩ := hSw.1.cells11; obtain ⟨a0, a1, a2, a3, a4, a5, a6, a7, a8, a9, a10⟩ := hSw.2.cells11; go_simp; (try with_reducible rfl))
                          try simp only [Act.put, List.setIfInBounds_toArray, List.set_cons_zero, List.set_cons_succ]
                          refine Fe.any_take 19 94 ?vt222 rfl rfl (by kernel_rfl) (by kernel_rfl) (by kernel_rfl) (fun _ _ _ h => h) (by rfl) ?ht222 hH2 ?rt222
                          case ht222 => ((intro W hSw); obtain ⟨n0, n1, n2, n3, n4, n5, n6, n7, n8, n9, n10⟩ := hSw.1.cells11; obtain ⟨a0, a1, a2, a3, a4, a5, a6, a7, a8, a9, a10⟩ := hSw.2.cells11; go_simp; (try with_reducible rfl))
                          try simp only [Act.put, List.setIfInBounds_toArray, List.set_cons_zero, List.set_cons_succ]
                          refine Fe.any_take 20 95 ?vt223 rfl rfl (by kernel_rfl) (by kernel_rfl) (by kernel_rfl) (fun _ _ _ h => h) (by rfl) ?ht223 hH2 ?rt223
                          case ht223 => ((intro W hSw); obtain ⟨n0, n1, n2, n3, n4, n5, n6, n7, n8, n9, n10⟩ := hSw.1.cells11; obtain ⟨a0, a1, a2, a3, a4, a5, a6, a7, a8, a9, a10⟩ := hSw.2.cells11; go_simp; (try with_reducible rfl))
                          try simp only [Act.put, List.setIfInBounds_toArray, List.set_cons_zero, List.set_cons_succ]
                          refine Fe.any_take 21 96 ?vt224 rfl rfl (by kernel_rfl) (by kernel_rfl) (by kernel_rfl) (fun _ _ _ h => h) (by rfl) ?ht224 hH2 ?rt224
                          case ht224 => ((intro W hSw); obtain ⟨n0, n1, n2, n3, n4, n5, n6, n7, n8, n9, n10⟩ := hSw.1.cells11; obtain ⟨a0, a1, a2, a3, a4, a5, a6, a7, a8, a9, a10⟩ := hSw.2.cells11; go_simp; (try with_reducible rfl))
                          try simp only [Act.put, List.setIfInBounds_toArray, List.set_cons_zero, List.set_cons_succ]
                          refine Fe.any_skip 22 97 rfl rfl (by kernel_rfl) (by kernel_rfl) (by kernel_rfl) (fun _ _ _ h => h) (by rfl) hH2 ?_
                          try simp only [Act.put, List.setIfInBounds_toArray, List.set_cons_zero, List.set_cons_succ]
                          refine Fe.any_skip 23 98 rfl rfl (by kernel_rfl) (by kernel_rfl) (by kernel_rfl) (fun _ _ _ h => h) (by rfl) hH2 ?_
                          try simp only [Act.put, List.setIfInBounds_toArray, List.set_cons_zero, List.set_cons_succ]
                          refine Fe.any_skip 24 99 rfl rfl (by kernel_rfl) (by kernel_rfl) (by kernel_rfl) (fun _ _ _ h => h) (by rfl) hH2 ?_
                          try simp only [Act.put, List.setIfInBounds_toArray, List.set_cons_zero, List.set_cons_succ]
                          refine Fe.any_skip 25 100 rfl rfl (by kernel_rfl) (by kernel_rfl) (by kernel_rfl) (fun _ _ _ h => h) (by rfl) hH2 ?_
                          try simp only [Act.put, List.setIfInBounds_toArray, List.set_cons_zero, List.set_cons_succ]
                          refine Fe.any_skip 26 101 rfl rfl (by kernel_rfl) (by kernel_rfl) (by kernel_rfl) (fun _ _ _ h => h) (by rfl) hH2 ?_
                          try simp only [Act.put, List.setIfInBounds_toArray, List.set_cons_zero, List.set_cons_succ]
                          refine Fe.any_skip 27 102 rfl rfl (by kernel_rfl) (by kernel_rfl) (by kernel_rfl) (fun _ _ _ h => h) (by rfl) hH2 ?_
                          try simp only [Act.put, List.setIfInBounds_toArray, List.set_cons_zero, List.set_cons_succ]
                          refine Fe.any_skip 28 103 rfl rfl (by kernel_rfl) (by kernel_rfl) (by kernel_rfl) (fun _ _ _ h => h) (by rfl) hH2 ?_
                          try simp only [Act.put, List.setIfInBounds_toArray, List.set_cons_zero, List.set_cons_succ]
                          refine Fe.any_take 29 104 ?vt225 rfl rfl (by kernel_rfl) (by kernel_rfl) (by kernel_rfl) (fun _ _ _ h => h) (by rfl) ?ht225 hH2 ?rt225
                          case ht225 => ((intro W hSw); obtain ⟨n0, n1, n2, n3, n4, n5, n6, n7, n8, n9, n10⟩ := hSw.1.cells11; obtain ⟨a0, a1, a2, a3, a4, a5, a6, a7, a8, a9, a10⟩ := hSw.2.cells11; go_simp; (try with_reducible rfl))
                          try simp only [Act.put, List.setIfInBounds_toArray, List.set_cons_zero, List.set_cons_succ]
                          refine Fe.any_take 30 105 ?vt226 rfl rfl (by kernel_rfl) (by kernel_rfl) (by kernel_rfl) (fun _ _ _ h => h) (by rfl) ?ht226 hH2 ?rt226
                          case ht226 => ((intro W hSw); obtain ⟨n0, n1, n2, n3, n4, n5, n6, n7, n8, n9, n10⟩ := hSw.1.cells11; obtain ⟨a0, a1, a2, a3, a4, a5, a6, a7, a8, a9, a10⟩ := hSw.2.cells11; go_simp; (try with_reducible rfl))
                          try simp only [Act.put, List.setIfInBounds_toArray, List.set_cons_zero, List.set_cons_succ]
                          clear hH2
                          refine wpAnyH_done (by kernel_rfl) ?_ _
                          refine NoPanic.normal ?_
                          go_wp2
                          go_roundw
                          case rel => exact ⟨j + 1, b2, q2, by omega, by omega, by go_num, SD.out⟩
                          case measure => simp [intOf]; omega
          · as_aux_lemma =>
              have he := HE.out
              have hO := HO.out
              have hs := HSS.out
              rw [ea] at he hO hs
              dsimp only at he hO hs
              obtain ⟨A4, c4, rfl, -, -⟩ := hO.slice
              subst he
              obtain ⟨w11, HW, hl, hs2, hb⟩ : ∃ W, W = w10.alloc (.cells #[.int .i64 9, .int .u32 (q.f.ep : Int), .int .u32 0, .int .u64 0, .int .u64 0, .int .u32 (x.o : Int), .int .i64 x.s, .bool x.u, .int .i64 0, .slice none 0 0, .slice A4 0 c4] 55) ∧ Lies W w10.heap.size 55 #[.int .i64 9, .int .u32 (q.f.ep : Int), .int .u32 0, .int .u64 0, .int .u64 0, .int .u32 (x.o : Int), .int .i64 x.s, .bool x.u, .int .i64 0, .slice none 0 0, .slice A4 0 c4] ∧ CW w W smR cc b2 q ∧ Below w10.heap.size w10 W := ⟨_, rfl, Lies.made w10 55 _, hs.alloc _, Fe.below1 _ _⟩
              have S_11 := Lib.hid hs2
              have LA_11 := Lib.hid hl
              have LN_11 := Lib.hid (LN_10.out.below hb LN_10.out.lt)
              have RG_11 := Lib.hid (RG_10.out.below hb)
              have RA_11 := Lib.hid (RA_10.out.below hb)
              have RE_11 := Lib.hid (RE_10.out.below hb)
              clear hs hs2 hl hb hO HO HE HSS H3
              go_wp2_with fail
              rw [← HW]
              clear HW
              with_reducible refine (cw_goods S_11.out).mono ?_
              rintro e w12 ⟨vh, rfl, hr, hb⟩
              have S_12 := Lib.hid (S_11.out.below hb)
              have LN_12 := Lib.hid (LN_11.out.below hb LN_11.out.lt)
              have RG_12 := Lib.hid (RG_11.out.below hb)
              have RA_12 := Lib.hid (RA_11.out.below hb)
              have RE_12 := Lib.hid (RE_11.out.below hb)
              have LA_12 := Lib.hid (LA_11.out.below hb LA_11.out.lt)
              have vhR_12 := Lib.hid hr
              clear hr
              clear hb
              go_wp2_with fail
              with_reducible refine (smG_any _ _ _ _ _ _ w12 vhR_12.out RG_12.out).mono ?_
              rintro e w13 ⟨hb, t1, rfl, ht1⟩
              have S_13 := Lib.hid (S_12.out.below hb)
              have LN_13 := Lib.hid (LN_12.out.below hb LN_12.out.lt)
              have RG_13 := Lib.hid (RG_12.out.below hb)
              have RA_13 := Lib.hid (RA_12.out.below hb)
              have RE_13 := Lib.hid (RE_12.out.below hb)
              have LA_13 := Lib.hid (LA_12.out.below hb LA_12.out.lt)
              have vhR_13 := Lib.hid (vhR_12.out.below hb)
              clear hb
              obtain rfl : t1 = true := ht1 (by rfl)
              go_wp2_with fail
              with_reducible refine (cw_accts S_13.out).mono ?_
              rintro e w14 ⟨vi, rfl, hr, hb⟩
              have S_14 := Lib.hid (S_13.out.below hb)
              have LN_14 := Lib.hid (LN_13.out.below hb LN_13.out.lt)
              have RG_14 := Lib.hid (RG_13.out.below hb)
              have RA_14 := Lib.hid (RA_13.out.below hb)
              have RE_14 := Lib.hid (RE_13.out.below hb)
              have LA_14 := Lib.hid (LA_13.out.below hb LA_13.out.lt)
              have vhR_14 := Lib.hid (vhR_13.out.below hb)
              have viR_14 := Lib.hid hr
              clear hr
              clear hb
              go_wp2_with fail
              with_reducible refine (smA_any _ _ _ _ _ _ w14 viR_14.out RA_14.out).mono ?_
              rintro e w15 ⟨hb, t2, rfl, ht2⟩
              have S_15 := Lib.hid (S_14.out.below hb)
              have LN_15 := Lib.hid (LN_14.out.below hb LN_14.out.lt)
              have RG_15 := Lib.hid (RG_14.out.below hb)
              have RA_15 := Lib.hid (RA_14.out.below hb)
              have RE_15 := Lib.hid (RE_14.out.below hb)
              have LA_15 := Lib.hid (LA_14.out.below hb LA_14.out.lt)
              have vhR_15 := Lib.hid (vhR_14.out.below hb)
              have viR_15 := Lib.hid (viR_14.out.below hb)
              clear hb
              obtain rfl : t2 = true := ht2 (by rfl)
              go_wp2_with fail
              with_reducible refine (cw_effects S_15.out).mono ?_
              rintro e w16 ⟨vj, rfl, hr, hb⟩
              have S_16 := Lib.hid (S_15.out.below hb)
              have LN_16 := Lib.hid (LN_15.out.below hb LN_15.out.lt)
              have RG_16 := Lib.hid (RG_15.out.below hb)
              have RA_16 := Lib.hid (RA_15.out.below hb)
              have RE_16 := Lib.hid (RE_15.out.below hb)
              have LA_16 := Lib.hid (LA_15.out.below hb LA_15.out.lt)
              have vhR_16 := Lib.hid (vhR_15.out.below hb)
              have viR_16 := Lib.hid (viR_15.out.below hb)
              have vjR_16 := Lib.hid hr
              clear hr
              clear hb
              go_wp2_with fail
              with_reducible refine (smF_any _ _ _ _ _ _ w16 vjR_16.out RE_16.out).mono ?_
              rintro e w17 ⟨hb, t3, rfl, ht3⟩
              have S_17 := Lib.hid (S_16.out.below hb)
              have LN_17 := Lib.hid (LN_16.out.below hb LN_16.out.lt)
              have RG_17 := Lib.hid (RG_16.out.below hb)
              have RA_17 := Lib.hid (RA_16.out.below hb)
              have RE_17 := Lib.hid (RE_16.out.below hb)
              have LA_17 := Lib.hid (LA_16.out.below hb LA_16.out.lt)
              have vhR_17 := Lib.hid (vhR_16.out.below hb)
              have viR_17 := Lib.hid (viR_16.out.below hb)
              have vjR_17 := Lib.hid (vjR_16.out.below hb)
              clear hb
              obtain rfl : t3 = true := ht3 (by rfl)
              obtain ⟨n0, n1, n2, n3, n4, n5, n6, n7, n8, n9, n10⟩ := LN_17.out.cells11
              obtain ⟨a0, a1, a2, a3, a4, a5, a6, a7, a8, a9, a10⟩ := LA_17.out.cells11
              have d1 : decide ((q.f.ep : Int) ≤ (ep : Int)) = false := by simp; omega
              have d2 : decide ((ep : Int) < (q.f.ep : Int)) = true := by simp; omega
              go_wp2_with fail
              with_reducible refine (cw_epoch S_17.out).mono ?_
              rintro e _ ⟨rfl, rfl⟩
              go_wp2
              go_roundw
              case rel => exact ⟨j + 1, b2, q, by omega, by omega, by go_num, S_17.out⟩
              case measure => simp [intOf]; omega
          · as_aux_lemma =>
              have he := HE.out
              have hO := HO.out
              have hs := HSS.out
              rw [ea] at he hO hs
              dsimp only at he hO hs
              obtain ⟨A4, c4, rfl, -, -⟩ := hO.slice
              subst he
              obtain ⟨w11, HW, hl, hs2, hb⟩ : ∃ W, W = w10.alloc (.cells #[.int .i64 6, .int .u32 (q.f.ep : Int), .int .u32 0, .int .u64 0, .int .u64 0, .int .u32 0, .int .i64 0, .bool false, .int .i64 k, .slice none 0 0, .slice A4 0 c4] 55) ∧ Lies W w10.heap.size 55 #[.int .i64 6, .int .u32 (q.f.ep : Int), .int .u32 0, .int .u64 0, .int .u64 0, .int .u32 0, .int .i64 0, .bool false, .int .i64 k, .slice none 0 0, .slice A4 0 c4] ∧ CW w W smR cc b2 q ∧ Below w10.heap.size w10 W := ⟨_, rfl, Lies.made w10 55 _, hs.alloc _, Fe.below1 _ _⟩
              have S_11 := Lib.hid hs2
              have LA_11 := Lib.hid hl
              have LN_11 := Lib.hid (LN_10.out.below hb LN_10.out.lt)
              have RG_11 := Lib.hid (RG_10.out.below hb)
              have RA_11 := Lib.hid (RA_10.out.below hb)
              have RE_11 := Lib.hid (RE_10.out.below hb)
              clear hs hs2 hl hb hO HO HE HSS H3
              go_wp2_with fail
              rw [← HW]
              clear HW
              with_reducible refine (cw_goods S_11.out).mono ?_
              rintro e w12 ⟨vh, rfl, hr, hb⟩
              have S_12 := Lib.hid (S_11.out.below hb)
              have LN_12 := Lib.hid (LN_11.out.below hb LN_11.out.lt)
              have RG_12 := Lib.hid (RG_11.out.below hb)
              have RA_12 := Lib.hid (RA_11.out.below hb)
              have RE_12 := Lib.hid (RE_11.out.below hb)
              have LA_12 := Lib.hid (LA_11.out.below hb LA_11.out.lt)
              have vhR_12 := Lib.hid hr
              clear hr
              clear hb
              go_wp2_with fail
              with_reducible refine (smG_any _ _ _ _ _ _ w12 vhR_12.out RG_12.out).mono ?_
              rintro e w13 ⟨hb, t1, rfl, ht1⟩
              have S_13 := Lib.hid (S_12.out.below hb)
              have LN_13 := Lib.hid (LN_12.out.below hb LN_12.out.lt)
              have RG_13 := Lib.hid (RG_12.out.below hb)
              have RA_13 := Lib.hid (RA_12.out.below hb)
              have RE_13 := Lib.hid (RE_12.out.below hb)
              have LA_13 := Lib.hid (LA_12.out.below hb LA_12.out.lt)
              have vhR_13 := Lib.hid (vhR_12.out.below hb)
              clear hb
              obtain rfl : t1 = true := ht1 (by rfl)
              go_wp2_with fail
              with_reducible refine (cw_accts S_13.out).mono ?_
              rintro e w14 ⟨vi, rfl, hr, hb⟩
              have S_14 := Lib.hid (S_13.out.below hb)
              have LN_14 := Lib.hid (LN_13.out.below hb LN_13.out.lt)
              have RG_14 := Lib.hid (RG_13.out.below hb)
              have RA_14 := Lib.hid (RA_13.out.below hb)
              have RE_14 := Lib.hid (RE_13.out.below hb)
              have LA_14 := Lib.hid (LA_13.out.below hb LA_13.out.lt)
              have vhR_14 := Lib.hid (vhR_13.out.below hb)
              have viR_14 := Lib.hid hr
              clear hr
              clear hb
              go_wp2_with fail
              with_reducible refine (smA_any _ _ _ _ _ _ w14 viR_14.out RA_14.out).mono ?_
              rintro e w15 ⟨hb, t2, rfl, ht2⟩
              have S_15 := Lib.hid (S_14.out.below hb)
              have LN_15 := Lib.hid (LN_14.out.below hb LN_14.out.lt)
              have RG_15 := Lib.hid (RG_14.out.below hb)
              have RA_15 := Lib.hid (RA_14.out.below hb)
              have RE_15 := Lib.hid (RE_14.out.below hb)
              have LA_15 := Lib.hid (LA_14.out.below hb LA_14.out.lt)
              have vhR_15 := Lib.hid (vhR_14.out.below hb)
              have viR_15 := Lib.hid (viR_14.out.below hb)
              clear hb
              obtain rfl : t2 = true := ht2 (by rfl)
              go_wp2_with fail
              with_reducible refine (cw_effects S_15.out).mono ?_
              rintro e w16 ⟨vj, rfl, hr, hb⟩
              have S_16 := Lib.hid (S_15.out.below hb)
              have LN_16 := Lib.hid (LN_15.out.below hb LN_15.out.lt)
              have RG_16 := Lib.hid (RG_15.out.below hb)
              have RA_16 := Lib.hid (RA_15.out.below hb)
              have RE_16 := Lib.hid (RE_15.out.below hb)
              have LA_16 := Lib.hid (LA_15.out.below hb LA_15.out.lt)
              have vhR_16 := Lib.hid (vhR_15.out.below hb)
              have viR_16 := Lib.hid (viR_15.out.below hb)
              have vjR_16 := Lib.hid hr
              clear hr
              clear hb
              go_wp2_with fail
              with_reducible refine (smF_any _ _ _ _ _ _ w16 vjR_16.out RE_16.out).mono ?_
              rintro e w17 ⟨hb, t3, rfl, ht3⟩
              have S_17 := Lib.hid (S_16.out.below hb)
              have LN_17 := Lib.hid (LN_16.out.below hb LN_16.out.lt)
              have RG_17 := Lib.hid (RG_16.out.below hb)
              have RA_17 := Lib.hid (RA_16.out.below hb)
              have RE_17 := Lib.hid (RE_16.out.below hb)
              have LA_17 := Lib.hid (LA_16.out.below hb LA_16.out.lt)
              have vhR_17 := Lib.hid (vhR_16.out.below hb)
              have viR_17 := Lib.hid (viR_16.out.below hb)
              have vjR_17 := Lib.hid (vjR_16.out.below hb)
              clear hb
              obtain rfl : t3 = true := ht3 (by rfl)
              obtain ⟨n0, n1, n2, n3, n4, n5, n6, n7, n8, n9, n10⟩ := LN_17.out.cells11
              obtain ⟨a0, a1, a2, a3, a4, a5, a6, a7, a8, a9, a10⟩ := LA_17.out.cells11
              have d1 : decide (k < 1) = false := by rcases hk with rfl | rfl | rfl <;> rfl
              have d2 : decide (3 < k) = false := by rcases hk with rfl | rfl | rfl <;> rfl
              go_wp2_with fail
              with_reducible refine (cw_epoch S_17.out).mono ?_
              rintro e _ ⟨rfl, rfl⟩
              go_wp2
              go_roundw
              case rel => exact ⟨j + 1, b2, q, by omega, by omega, by go_num, S_17.out⟩
              case measure => simp [intOf]; omega
        · have h3 : decide ((j : Int) < 60) = false := by simp; omega
          have hlt2 : (j : Int) < (n : Int) := by omega
          go_wp2_with fail
          with_reducible refine (known_any _).mono ?_
          rintro e w90 ⟨rfl, hb⟩
          have S_90 := Lib.hid (S_4.out.below hb)
          clear hb
          go_wp2
          go_ret
          exact ⟨rfl, S_90.out.bel⟩
      · have hlt3 : decide ((j : Int) < (n : Int)) = false := by simp; omega
        go_wp2_with fail
        with_reducible refine (known_any _).mono ?_
        rintro e w90 ⟨rfl, hb⟩
        have S_90 := Lib.hid (S_4.out.below hb)
        clear hb
        go_wp2
        go_ret
        exact ⟨rfl, S_90.out.bel⟩
  · clear HT
    go_wp2_with fail
    with_reducible refine (known_any _).mono ?_
    rintro e w90 ⟨rfl, hb⟩
    have S_90 := Lib.hid (S_2.out.below hb)
    clear hb
    go_wp2
    go_ret
    exact ⟨rfl, S_90.out.bel⟩

end Go.Proofs.YtpbclmnhkmcknaaGreat
