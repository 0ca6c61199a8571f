/-
  The walk of CrewMoney.
-/
import Derived.Test.YtpbclmnhkmcknaaGreatZ24
namespace Go.Proofs.YtpbclmnhkmcknaaGreat
open Go.RowKit
open Fe (Lies Own Bys Reads NF Kx Kp Note)
set_option maxRecDepth 100000
set_option linter.unusedVariables false
set_option linter.unusedSimpArgs false

/-- Over two. -/
def KR (w : World) (v : Value) (wr : World) : Prop := ∃ k : Nat, k ≤ 2 ∧ v = .int .i64 (k : Int) ∧ Below w.heap.size w wr
/-- Over the asks. -/
def MoR (w : World) (cc n : Nat) (vg va : Value) (v : Value) (wr : World) : Prop := ∃ (j : Nat) (b : CB) (q : Cq), j ≤ 60 ∧ j ≤ n ∧ v = .int .i64 (j : Int) ∧ CW w wr smR cc b q ∧ firstQ q = firstQ smQ ∧ (∃ B, St.OwnG wr B vg smG) ∧ ∃ B, Pu.OwnG wr B va smA
set_option maxHeartbeats 16000000 in
theorem crewMoney_walk (A : Option Addr) (n c : Nat) (X : Nat → Ax) (w : World) (hA : AV w A n c X) :
    Calls Tryz.prog 9 #[.slice A n c] w fun e w' => e = .returned (.bool true) ∧ Below w.heap.size w w' := by
  have HA := Lib.hid hA
  have hn : (n : Int) ≤ 9223372036854775807 := by have h1 := hA.1; have h2 := hA.2.1; unfold maxLen at h2; omega
  clear hA
  go_enter Tryz.func9, Tryz.ntmps9
  go_wp2_with fail
  with_reducible refine (small_any w).mono ?_
  rintro e w1 ⟨b, rfl, hs⟩
  have S_1 := Lib.hid hs
  clear hs
  obtain ⟨cc, hcc⟩ : ∃ cc, b.c = cc := ⟨_, rfl⟩
  rw [hcc] at S_1 ⊢
  clear hcc
  go_wp2_with fail
  with_reducible refine (long_any A n c X w1 (HA.out.below S_1.out.bel)).mono ?_
  rintro e w2 ⟨hb, t, rfl, ht⟩
  have S_2 := Lib.hid (S_1.out.below hb)
  have HT := Lib.hid ht
  clear hb ht S_1
  cases t
  · have HS : Hid (ShortA n X) := Lib.hid (HT.out rfl)
    clear HT
    go_wp2_with fail
    with_reducible refine (cw_goods S_2.out).mono ?_
    rintro e w3 ⟨vg, rfl, hr, hb⟩
    have S_3 := Lib.hid (S_2.out.below hb)
    have RG_3 := Lib.hid hr
    clear hr hb
    go_wp2_with fail
    with_reducible refine (cw_accts S_3.out).mono ?_
    rintro e w4 ⟨va, rfl, hr, hb⟩
    have S_4 := Lib.hid (S_3.out.below hb)
    have RG_4 := Lib.hid (RG_3.out.below hb)
    have RA_4 := Lib.hid hr
    clear hr hb
    obtain ⟨A5, c5, hvg, -, h5⟩ := G_row RG_4.out
    obtain ⟨g5, rfl, -⟩ := h5 0 (by decide)
    have hvg : vg = .slice (some ⟨g5, 0, none⟩) 2 c5 := hvg
    subst hvg
    obtain ⟨A6, c6, hva, -, h6⟩ := A_row RA_4.out
    obtain ⟨g6, rfl, -⟩ := h6 0 (by decide)
    have hva : va = .slice (some ⟨g6, 0, none⟩) 2 c6 := hva
    subst hva
    clear h5 h6
    go_wp2_with fail
    go_loopw [6] (fun i wr => MoR w cc n (.slice (some ⟨g5, 0, none⟩) 2 c5) (.slice (some ⟨g6, 0, none⟩) 2 c6) i wr) (fun i _ => 61 - (intOf i).toNat)
    case atStart => exact ⟨0, b, smQ, by omega, by omega, rfl, S_4.out, rfl, ⟨_, RG_4.out⟩, ⟨_, RA_4.out⟩⟩
    case round =>
      clear S_4 RG_4 RA_4 S_3 RG_3 S_2
      obtain ⟨j, b, q, hj, hjn, rfl, hS, hq, ⟨Bg, hG⟩, ⟨Ba, hR⟩⟩ := hrel
      have S_4 := Lib.hid hS
      have HQ := Lib.hid hq
      have RG_4 := Lib.hid hG
      have RA_4 := Lib.hid hR
      have HAr := Lib.hid (HA.out.below hS.bel)
      clear hS hq hG hR
      by_cases hlt : j < n
      · by_cases h60 : j < 60
        · have hlt2 : (j : Int) < (n : Int) := by omega
          have hlt3 : decide ((j : Int) < (n : Int)) = true := by simp; omega
          have h3 : decide ((j : Int) < 60) = true := by simp; omega
          obtain ⟨g, o, rfl, -⟩ := HAr.out.2.2.2.1 (by omega)
          obtain ⟨x0, x1, x2, x3, x4, x5, x6, x7⟩ := HAr.out.2.2.2.at j hlt
          have HX := Lib.hid (HAr.out.2.2.2.2 j hlt)
          have HX0 := Lib.hid (HA.out.2.2.2.2 j hlt)
          have HSX := Lib.hid (HS.out j hlt (by omega))
          obtain ⟨x, hx⟩ : ∃ x, X j = x := ⟨_, rfl⟩
          rw [hx] at x0 x1 x2 x3 x4 x5 x6 x7 HX HX0 HSX
          clear hx
          go_wp2_with fail
          with_reducible refine (asknote_any x wr HX.out).mono ?_
          rintro e w5 ⟨hb, A2, c2, rfl, hin, hown⟩
          have HB5 := Lib.hid hb
          have S_5 := Lib.hid (S_4.out.below hb)
          have RG_5 := Lib.hid (RG_4.out.below hb)
          have RA_5 := Lib.hid (RA_4.out.below hb)
          have HIN := Lib.hid hin
          have HOW := Lib.hid hown
          clear hb hin hown x0 x1 x2 x3 x4 x5 x6 x7
          go_wp2_with fail
          obtain ⟨ep, hep, hee⟩ : ∃ ep : Nat, (1 : Int) + (x.e : Int) % 3 = (ep : Int) ∧ ep < 4294967296 := ⟨1 + x.e % 3, by omega, by omega⟩
          rw [hep]
          have HEP := Lib.hid hee
          clear hep hee
          obtain ⟨OB, hOB⟩ : ∃ OB, OB = Obj.cells #[.int .i64 7, .int .u32 (ep : Int), .int .u32 0, .int .u64 0, .int .u64 0, .int .u32 (x.o : Int), .int .i64 x.s, .bool x.u, .int .i64 0, .slice none 0 0, .slice A2 (askD x).length c2] 55 := ⟨_, rfl⟩
          rw [← hOB]
          clear hOB
          have C := Lib.hid (ask_serve ep HEP.out S_4.out HX0.out HSX.out HB5.out HIN.out HOW.out OB)
          have S_6 := Lib.hid (S_5.out.alloc OB)
          have RG_6 := Lib.hid (RG_5.out.alloc OB)
          have RA_6 := Lib.hid (RA_5.out.alloc OB)
          with_reducible refine C.out.mono ?_
          rintro e w7 ⟨b7, v7, rfl, -, -, hs, hg, -⟩
          have S_7 := Lib.hid hs
          have RG_7 := Lib.hid (G_serve RG_6.out S_6.out.at_ hg)
          have RA_7 := Lib.hid (A_serve RA_6.out S_6.out.at_ hg)
          have HQ7 := Lib.hid ((serve_first S_4.out.inv (stN ep x.o x.s x.u (askD x))).trans HQ.out)
          clear hs hg C S_6 RG_6 RA_6 S_5 RG_5 RA_5 S_4 RG_4 RA_4 HQ HIN HOW HX HX0 HSX HAr HB5
          obtain ⟨q7, hq7⟩ : ∃ q7, (serveS q (stN ep x.o x.s x.u (askD x))).q = q7 := ⟨_, rfl⟩
          rw [hq7] at S_7 HQ7
          clear hq7
          go_wp2_with fail
          with_reducible refine (cw_goods S_7.out).mono ?_
          rintro e w8 ⟨vh, rfl, hr, hb⟩
          have S_8 := Lib.hid (S_7.out.below hb)
          have RG_8 := Lib.hid (RG_7.out.below hb)
          have RA_8 := Lib.hid (RA_7.out.below hb)
          have RH_8 := Lib.hid hr
          clear hr hb S_7 RG_7 RA_7
          go_wp2_with fail
          with_reducible refine (cw_accts S_8.out).mono ?_
          rintro e w9 ⟨vb, rfl, hr, hb⟩
          have S_9 := Lib.hid (S_8.out.below hb)
          have RG_9 := Lib.hid (RG_8.out.below hb)
          have RA_9 := Lib.hid (RA_8.out.below hb)
          have RH_9 := Lib.hid (RH_8.out.below hb)
          have RB_9 := Lib.hid hr
          clear hr hb S_8 RG_8 RA_8 RH_8
          have RGo : Hid (∃ B, St.OwnG w9 B (.slice (some ⟨g5, 0, none⟩) 2 c5) smG) := Lib.hid ⟨_, RG_9.out⟩
          have RAo : Hid (∃ B, Pu.OwnG w9 B (.slice (some ⟨g6, 0, none⟩) 2 c6) smA) := Lib.hid ⟨_, RA_9.out⟩
          have FG := Lib.hid (first_goods S_9.out.inv HQ7.out)
          have FA := Lib.hid (first_accts S_9.out.inv HQ7.out)
          have FR := Lib.hid (first_rooms S_9.out.inv)
          obtain ⟨Lg, hLg⟩ : ∃ L, St.goodsL q7.s.K = L := ⟨_, rfl⟩
          obtain ⟨La, hLa⟩ : ∃ L, q7.p.K = L := ⟨_, rfl⟩
          rw [hLg] at RH_9 FG
          rw [hLa] at RB_9 FA
          clear hLg hLa
          obtain ⟨A3, c3, hvh, -, hh⟩ := G_row RH_9.out
          obtain ⟨g3, rfl, -⟩ := hh 0 (by rw [FG.out.1]; decide)
          rw [FG.out.1] at hvh
          subst hvh
          obtain ⟨A4, c4, hvb, -, hk⟩ := A_row RB_9.out
          obtain ⟨g4, rfl, -⟩ := hk 0 (by rw [FA.out.1]; decide)
          rw [FA.out.1] at hvb
          subst hvb
          clear hh hk
          go_wp2_with fail
          go_loopw [10] (fun v wr => KR w9 v wr) (fun i _ => 3 - (intOf i).toNat)
          case atStart => exact ⟨0, by omega, rfl, Below.refl _ _⟩
          case round =>
            obtain ⟨k, hk, rfl, hbr⟩ := hrel
            have HBR := Lib.hid hbr
            clear hbr
            by_cases hk2 : k < 2
            · have e1 : (k : Int) < 2 := by omega
              have e2 : decide ((k : Int) < 2) = true := by simp; omega
              have hlg : k < Lg.length := by rw [FG.out.1]; exact hk2
              have hls : k < smG.length := hk2
              obtain ⟨A', c', e', -, hc⟩ := G_row (RH_9.out.below HBR.out)
              injection e' with e' t1 t2
              clear t1 t2
              subst e'
              obtain ⟨gx, ex, y0, y1⟩ := hc k hlg
              injection ex with ex
              injection ex with ex
              subst ex
              clear hc
              obtain ⟨A', c', e', -, hc⟩ := G_row (RG_9.out.below HBR.out)
              injection e' with e' t1 t2
              clear t1 t2
              subst e'
              obtain ⟨gx, ex, z0, z1⟩ := hc k hls
              injection ex with ex
              injection ex with ex
              subst ex
              clear hc
              obtain ⟨f1, f2, f3⟩ := FG.out.2 k hlg hls
              have f1 : Lg[k].n = smG[k].n := f1
              have f3 : Lg[k].f ≤ smG[k].f := f3
              rw [f1] at y0
              obtain ⟨u, hu⟩ : ∃ u, encStr smG[k].n = .string u := ⟨_, rfl⟩
              rw [hu] at y0 z0
              obtain ⟨p, hp⟩ : ∃ p, Lg[k].f = p := ⟨_, rfl⟩
              obtain ⟨r, hr⟩ : ∃ r, smG[k].f = r := ⟨_, rfl⟩
              rw [hp] at y1 f2 f3
              rw [hr] at z1 f3
              have d0 : (u.toList == u.toList) = true := by simp
              have d1 : decide (p < 0) = false := by simp; omega
              have d2 : decide (r < p) = false := by simp; omega
              clear f1 f2 f3 hu hp hr
              go_wp2_with fail
              refine wp_region_noPanic ?_
              refine wp_region_held_drew (S := fun W => W.cell? ⟨g3, k * 2, none⟩ = some (.string u) ∧ W.cell? ⟨g3, k * 2 + 1, none⟩ = some (.int .i64 p) ∧ W.cell? ⟨g5, k * 2, none⟩ = some (.string u) ∧ W.cell? ⟨g5, k * 2 + 1, none⟩ = some (.int .i64 r)) (by kernel_rfl) (⟨y0, y1, z0, z1⟩) (fun hH0 => ?_)
              refine Fe.any_take 0 74 ?vt2 rfl rfl (by kernel_rfl) (by kernel_rfl) (by kernel_rfl) (fun _ _ _ h => h) (by rfl) ?ht2 hH0 ?rt2
              case ht2 => ((intro W hSw); obtain ⟨q0, q1, q2, q3⟩ := hSw; go_simp; (try with_reducible rfl))
              try simp only [Act.put, List.setIfInBounds_toArray, List.set_cons_zero, List.set_cons_succ]
              refine Fe.any_take 1 75 ?vt3 rfl rfl (by kernel_rfl) (by kernel_rfl) (by kernel_rfl) (fun _ _ _ h => h) (by rfl) ?ht3 hH0 ?rt3
              case ht3 => ((intro W hSw); obtain ⟨q0, q1, q2, q3⟩ := hSw; go_simp; (try with_reducible rfl))
              try simp only [Act.put, List.setIfInBounds_toArray, List.set_cons_zero, List.set_cons_succ]
              refine Fe.any_take 2 76 ?vt4 rfl rfl (by kernel_rfl) (by kernel_rfl) (by kernel_rfl) (fun _ _ _ h => h) (by rfl) ?ht4 hH0 ?rt4
              case ht4 => ((intro W hSw); obtain ⟨q0, q1, q2, q3⟩ := hSw; go_simp; (try with_reducible rfl))
              try simp only [Act.put, List.setIfInBounds_toArray, List.set_cons_zero, List.set_cons_succ]
              refine Fe.any_take 3 77 ?vt5 rfl rfl (by kernel_rfl) (by kernel_rfl) (by kernel_rfl) (fun _ _ _ h => h) (by rfl) ?ht5 hH0 ?rt5
              case ht5 => ((intro W hSw); obtain ⟨q0, q1, q2, q3⟩ := hSw; go_simp; (try with_reducible rfl))
              try simp only [Act.put, List.setIfInBounds_toArray, List.set_cons_zero, List.set_cons_succ]
              refine Fe.any_take 4 78 ?vt6 rfl rfl (by kernel_rfl) (by kernel_rfl) (by kernel_rfl) (fun _ _ _ h => h) (by rfl) ?ht6 hH0 ?rt6
              case ht6 => ((intro W hSw); obtain ⟨q0, q1, q2, q3⟩ := hSw; go_simp; (try with_reducible rfl))
              try simp only [Act.put, List.setIfInBounds_toArray, List.set_cons_zero, List.set_cons_succ]
              refine Fe.any_take 5 79 ?vt7 rfl rfl (by kernel_rfl) (by kernel_rfl) (by kernel_rfl) (fun _ _ _ h => h) (by rfl) ?ht7 hH0 ?rt7
              case ht7 => ((intro W hSw); obtain ⟨q0, q1, q2, q3⟩ := hSw; go_simp; (try with_reducible rfl))
              try simp only [Act.put, List.setIfInBounds_toArray, List.set_cons_zero, List.set_cons_succ]
              refine Fe.any_take 6 80 ?vt8 rfl rfl (by kernel_rfl) (by kernel_rfl) (by kernel_rfl) (fun _ _ _ h => h) (by rfl) ?ht8 hH0 ?rt8
              case ht8 => ((intro W hSw); obtain ⟨q0, q1, q2, q3⟩ := hSw; go_simp; (try with_reducible rfl))
              try simp only [Act.put, List.setIfInBounds_toArray, List.set_cons_zero, List.set_cons_succ]
              refine Fe.any_take 7 81 ?vt9 rfl rfl (by kernel_rfl) (by kernel_rfl) (by kernel_rfl) (fun _ _ _ h => h) (by rfl) ?ht9 hH0 ?rt9
              case ht9 => ((intro W hSw); obtain ⟨q0, q1, q2, q3⟩ := hSw; go_simp; (try with_reducible rfl))
              try simp only [Act.put, List.setIfInBounds_toArray, List.set_cons_zero, List.set_cons_succ]
              refine Fe.any_take 8 82 ?vt10 rfl rfl (by kernel_rfl) (by kernel_rfl) (by kernel_rfl) (fun _ _ _ h => h) (by rfl) ?ht10 hH0 ?rt10
              case ht10 => ((intro W hSw); obtain ⟨q0, q1, q2, q3⟩ := hSw; go_simp; (try with_reducible rfl))
              try simp only [Act.put, List.setIfInBounds_toArray, List.set_cons_zero, List.set_cons_succ]
              refine Fe.any_take 9 83 ?vt11 rfl rfl (by kernel_rfl) (by kernel_rfl) (by kernel_rfl) (fun _ _ _ h => h) (by rfl) ?ht11 hH0 ?rt11
              case ht11 => ((intro W hSw); obtain ⟨q0, q1, q2, q3⟩ := hSw; go_simp; (try with_reducible rfl))
              try simp only [Act.put, List.setIfInBounds_toArray, List.set_cons_zero, List.set_cons_succ]
              refine Fe.any_take 10 84 ?vt12 rfl rfl (by kernel_rfl) (by kernel_rfl) (by kernel_rfl) (fun _ _ _ h => h) (by rfl) ?ht12 hH0 ?rt12
              case ht12 => ((intro W hSw); obtain ⟨q0, q1, q2, q3⟩ := hSw; go_simp; (try with_reducible rfl))
              try simp only [Act.put, List.setIfInBounds_toArray, List.set_cons_zero, List.set_cons_succ]
              refine Fe.any_take 11 85 ?vt13 rfl rfl (by kernel_rfl) (by kernel_rfl) (by kernel_rfl) (fun _ _ _ h => h) (by rfl) ?ht13 hH0 ?rt13
              case ht13 => ((intro W hSw); obtain ⟨q0, q1, q2, q3⟩ := hSw; go_simp; (try with_reducible rfl))
              try simp only [Act.put, List.setIfInBounds_toArray, List.set_cons_zero, List.set_cons_succ]
              refine Fe.any_take 12 86 ?vt14 rfl rfl (by kernel_rfl) (by kernel_rfl) (by kernel_rfl) (fun _ _ _ h => h) (by rfl) ?ht14 hH0 ?rt14
              case ht14 => ((intro W hSw); obtain ⟨q0, q1, q2, q3⟩ := hSw; go_simp; (try with_reducible rfl))
              try simp only [Act.put, List.setIfInBounds_toArray, List.set_cons_zero, List.set_cons_succ]
              refine Fe.any_take 13 87 ?vt15 rfl rfl (by kernel_rfl) (by kernel_rfl) (by kernel_rfl) (fun _ _ _ h => h) (by rfl) ?ht15 hH0 ?rt15
              case ht15 => ((intro W hSw); obtain ⟨q0, q1, q2, q3⟩ := hSw; go_simp; (try with_reducible rfl))
              try simp only [Act.put, List.setIfInBounds_toArray, List.set_cons_zero, List.set_cons_succ]
              refine Fe.any_take 14 88 ?vt16 rfl rfl (by kernel_rfl) (by kernel_rfl) (by kernel_rfl) (fun _ _ _ h => h) (by rfl) ?ht16 hH0 ?rt16
              case ht16 => ((intro W hSw); obtain ⟨q0, q1, q2, q3⟩ := hSw; go_simp; (try with_reducible rfl))
              try simp only [Act.put, List.setIfInBounds_toArray, List.set_cons_zero, List.set_cons_succ]
              refine Fe.any_take 15 89 ?vt17 rfl rfl (by kernel_rfl) (by kernel_rfl) (by kernel_rfl) (fun _ _ _ h => h) (by rfl) ?ht17 hH0 ?rt17
              case ht17 => ((intro W hSw); obtain ⟨q0, q1, q2, q3⟩ := hSw; go_simp; (try with_reducible rfl))
              try simp only [Act.put, List.setIfInBounds_toArray, List.set_cons_zero, List.set_cons_succ]
              refine Fe.any_take 16 90 ?vt18 rfl rfl (by kernel_rfl) (by kernel_rfl) (by kernel_rfl) (fun _ _ _ h => h) (by rfl) ?ht18 hH0 ?rt18
              case ht18 => ((intro W hSw); obtain ⟨q0, q1, q2, q3⟩ := hSw; go_simp; (try with_reducible rfl))
              try simp only [Act.put, List.setIfInBounds_toArray, List.set_cons_zero, List.set_cons_succ]
              refine Fe.any_take 17 91 ?vt19 rfl rfl (by kernel_rfl) (by kernel_rfl) (by kernel_rfl) (fun _ _ _ h => h) (by rfl) ?ht19 hH0 ?rt19
              case ht19 => ((intro W hSw); obtain ⟨q0, q1, q2, q3⟩ := hSw; go_simp; (try with_reducible rfl))
              try simp only [Act.put, List.setIfInBounds_toArray, List.set_cons_zero, List.set_cons_succ]
              refine Fe.any_take 18 92 ?vt20 rfl rfl (by kernel_rfl) (by kernel_rfl) (by kernel_rfl) (fun _ _ _ h => h) (by rfl) ?ht20 hH0 ?rt20
              case ht20 => ((intro W hSw); obtain ⟨q0, q1, q2, q3⟩ := hSw; go_simp; (try with_reducible rfl))
              try simp only [Act.put, List.setIfInBounds_toArray, List.set_cons_zero, List.set_cons_succ]
              refine Fe.any_take 19 93 ?vt21 rfl rfl (by kernel_rfl) (by kernel_rfl) (by kernel_rfl) (fun _ _ _ h => h) (by rfl) ?ht21 hH0 ?rt21
              case ht21 => ((intro W hSw); obtain ⟨q0, q1, q2, q3⟩ := hSw; go_simp; (try with_reducible rfl))
              try simp only [Act.put, List.setIfInBounds_toArray, List.set_cons_zero, List.set_cons_succ]
              refine Fe.any_take 20 94 ?vt22 rfl rfl (by kernel_rfl) (by kernel_rfl) (by kernel_rfl) (fun _ _ _ h => h) (by rfl) ?ht22 hH0 ?rt22
              case ht22 => ((intro W hSw); obtain ⟨q0, q1, q2, q3⟩ := hSw; go_simp; (try with_reducible rfl))
              try simp only [Act.put, List.setIfInBounds_toArray, List.set_cons_zero, List.set_cons_succ]
              refine Fe.any_take 21 95 ?vt23 rfl rfl (by kernel_rfl) (by kernel_rfl) (by kernel_rfl) (fun _ _ _ h => h) (by rfl) ?ht23 hH0 ?rt23
              case ht23 => ((intro W hSw); obtain ⟨q0, q1, q2, q3⟩ := hSw; go_simp; (try with_reducible rfl))
              try simp only [Act.put, List.setIfInBounds_toArray, List.set_cons_zero, List.set_cons_succ]
              refine Fe.any_take 22 96 ?vt24 rfl rfl (by kernel_rfl) (by kernel_rfl) (by kernel_rfl) (fun _ _ _ h => h) (by rfl) ?ht24 hH0 ?rt24
              case ht24 => ((intro W hSw); obtain ⟨q0, q1, q2, q3⟩ := hSw; go_simp; (try with_reducible rfl))
              try simp only [Act.put, List.setIfInBounds_toArray, List.set_cons_zero, List.set_cons_succ]
              refine Fe.any_take 23 97 ?vt25 rfl rfl (by kernel_rfl) (by kernel_rfl) (by kernel_rfl) (fun _ _ _ h => h) (by rfl) ?ht25 hH0 ?rt25
              case ht25 => ((intro W hSw); obtain ⟨q0, q1, q2, q3⟩ := hSw; go_simp; (try with_reducible rfl))
              try simp only [Act.put, List.setIfInBounds_toArray, List.set_cons_zero, List.set_cons_succ]
              refine Fe.any_take 24 98 ?vt26 rfl rfl (by kernel_rfl) (by kernel_rfl) (by kernel_rfl) (fun _ _ _ h => h) (by rfl) ?ht26 hH0 ?rt26
              case ht26 => ((intro W hSw); obtain ⟨q0, q1, q2, q3⟩ := hSw; go_simp; (try with_reducible rfl))
              try simp only [Act.put, List.setIfInBounds_toArray, List.set_cons_zero, List.set_cons_succ]
              refine Fe.any_take 25 99 ?vt27 rfl rfl (by kernel_rfl) (by kernel_rfl) (by kernel_rfl) (fun _ _ _ h => h) (by rfl) ?ht27 hH0 ?rt27
              case ht27 => ((intro W hSw); obtain ⟨q0, q1, q2, q3⟩ := hSw; go_simp; (try with_reducible rfl))
              try simp only [Act.put, List.setIfInBounds_toArray, List.set_cons_zero, List.set_cons_succ]
              refine Fe.any_take 26 100 ?vt28 rfl rfl (by kernel_rfl) (by kernel_rfl) (by kernel_rfl) (fun _ _ _ h => h) (by rfl) ?ht28 hH0 ?rt28
              case ht28 => ((intro W hSw); obtain ⟨q0, q1, q2, q3⟩ := hSw; go_simp; (try with_reducible rfl))
              try simp only [Act.put, List.setIfInBounds_toArray, List.set_cons_zero, List.set_cons_succ]
              refine Fe.any_take 27 101 ?vt29 rfl rfl (by kernel_rfl) (by kernel_rfl) (by kernel_rfl) (fun _ _ _ h => h) (by rfl) ?ht29 hH0 ?rt29
              case ht29 => ((intro W hSw); obtain ⟨q0, q1, q2, q3⟩ := hSw; go_simp; (try with_reducible rfl))
              try simp only [Act.put, List.setIfInBounds_toArray, List.set_cons_zero, List.set_cons_succ]
              refine Fe.any_take 28 102 ?vt30 rfl rfl (by kernel_rfl) (by kernel_rfl) (by kernel_rfl) (fun _ _ _ h => h) (by rfl) ?ht30 hH0 ?rt30
              case ht30 => ((intro W hSw); obtain ⟨q0, q1, q2, q3⟩ := hSw; go_simp; (try with_reducible rfl))
              try simp only [Act.put, List.setIfInBounds_toArray, List.set_cons_zero, List.set_cons_succ]
              refine Fe.any_take 29 103 ?vt31 rfl rfl (by kernel_rfl) (by kernel_rfl) (by kernel_rfl) (fun _ _ _ h => h) (by rfl) ?ht31 hH0 ?rt31
              case ht31 => ((intro W hSw); obtain ⟨q0, q1, q2, q3⟩ := hSw; go_simp; (try with_reducible rfl))
              try simp only [Act.put, List.setIfInBounds_toArray, List.set_cons_zero, List.set_cons_succ]
              refine Fe.any_take 30 104 ?vt32 rfl rfl (by kernel_rfl) (by kernel_rfl) (by kernel_rfl) (fun _ _ _ h => h) (by rfl) ?ht32 hH0 ?rt32
              case ht32 => ((intro W hSw); obtain ⟨q0, q1, q2, q3⟩ := hSw; go_simp; (try with_reducible rfl))
              try simp only [Act.put, List.setIfInBounds_toArray, List.set_cons_zero, List.set_cons_succ]
              refine Fe.any_take 31 105 ?vt33 rfl rfl (by kernel_rfl) (by kernel_rfl) (by kernel_rfl) (fun _ _ _ h => h) (by rfl) ?ht33 hH0 ?rt33
              case ht33 => ((intro W hSw); obtain ⟨q0, q1, q2, q3⟩ := hSw; go_simp; (try with_reducible rfl))
              try simp only [Act.put, List.setIfInBounds_toArray, List.set_cons_zero, List.set_cons_succ]
              clear hH0
              refine wpAnyH_done (by kernel_rfl) ?_ _
              refine NoPanic.normal ?_
              go_wp2
              go_roundw
              case rel => exact ⟨k + 1, by omega, by go_num, HBR.out.drew⟩
              case measure => simp [intOf]; omega
            · have e1 : ¬ (k : Int) < 2 := by omega
              have e2 : decide ((k : Int) < 2) = false := by simp; omega
              have S_10 := Lib.hid (S_9.out.below HBR.out)
              have RG_10 := Lib.hid (RG_9.out.below HBR.out)
              have RA_10 := Lib.hid (RA_9.out.below HBR.out)
              have RB_10 := Lib.hid (RB_9.out.below HBR.out)
              go_wp2_with fail
              go_loopw [11] (fun v wr2 => KR wr v wr2) (fun i _ => 3 - (intOf i).toNat)
              case atStart => exact ⟨0, by omega, rfl, Below.refl _ _⟩
              case round =>
                clear e1 e2 hk2 hk
                obtain ⟨k2, hk, rfl, hbr⟩ := hrel
                have HBQ := Lib.hid hbr
                clear hbr
                by_cases hk2 : k2 < 2
                · have e1 : (k2 : Int) < 2 := by omega
                  have e2 : decide ((k2 : Int) < 2) = true := by simp; omega
                  have hlg : k2 < La.length := by rw [FA.out.1]; exact hk2
                  have hls : k2 < smA.length := hk2
                  obtain ⟨A', c', e', -, hc⟩ := A_row (RB_10.out.below HBQ.out)
                  injection e' with e' t1 t2
                  clear t1 t2
                  subst e'
                  obtain ⟨gx, ex, y0, y1, y2⟩ := hc k2 hlg
                  injection ex with ex
                  injection ex with ex
                  subst ex
                  clear hc
                  obtain ⟨A', c', e', -, hc⟩ := A_row (RA_10.out.below HBQ.out)
                  injection e' with e' t1 t2
                  clear t1 t2
                  subst e'
                  obtain ⟨gx, ex, z0, z1, z2⟩ := hc k2 hls
                  injection ex with ex
                  injection ex with ex
                  subst ex
                  clear hc
                  obtain ⟨f1, f2, f3, f4⟩ := FA.out.2 k2 hlg hls
                  have f1 : La[k2].n = smA[k2].n := f1
                  have f4 : La[k2].m ≤ smA[k2].m := f4
                  rw [f1] at y0
                  obtain ⟨u, hu⟩ : ∃ u, encStr smA[k2].n = .string u := ⟨_, rfl⟩
                  rw [hu] at y0 z0
                  obtain ⟨p, hp⟩ : ∃ p, La[k2].m = p := ⟨_, rfl⟩
                  obtain ⟨p2, hp2⟩ : ∃ p, La[k2].h = p := ⟨_, rfl⟩
                  obtain ⟨r, hr⟩ : ∃ r, smA[k2].m = r := ⟨_, rfl⟩
                  rw [hp] at y1 f3 f4
                  rw [hp2] at y2 f2 f3
                  rw [hr] at z1 f4
                  have d0 : (u.toList == u.toList) = true := by simp
                  have d1 : decide (p2 < 0) = false := by simp; omega
                  have d2 : decide (p < p2) = false := by simp; omega
                  have d3 : decide (r < p) = false := by simp; omega
                  clear f1 f2 f3 f4 hu hp hp2 hr z2
                  go_wp2_with fail
                  refine wp_region_noPanic ?_
                  refine wp_region_held_drew (S := fun W => W.cell? ⟨g4, k2 * 3, none⟩ = some (.string u) ∧ W.cell? ⟨g4, k2 * 3 + 1, none⟩ = some (.int .i64 p) ∧ W.cell? ⟨g4, k2 * 3 + 2, none⟩ = some (.int .i64 p2) ∧ W.cell? ⟨g6, k2 * 3, none⟩ = some (.string u) ∧ W.cell? ⟨g6, k2 * 3 + 1, none⟩ = some (.int .i64 r)) (by kernel_rfl) (⟨y0, y1, y2, z0, z1⟩) (fun hH0 => ?_)
                  refine Fe.any_take 0 112 ?vt35 rfl rfl (by kernel_rfl) (by kernel_rfl) (by kernel_rfl) (fun _ _ _ h => h) (by rfl) ?ht35 hH0 ?rt35
                  case ht35 => ((intro W hSw); obtain ⟨q0, q1, q2, q3, q4⟩ := hSw; go_simp; (try with_reducible rfl))
                  try simp only [Act.put, List.setIfInBounds_toArray, List.set_cons_zero, List.set_cons_succ]
                  refine Fe.any_take 1 113 ?vt36 rfl rfl (by kernel_rfl) (by kernel_rfl) (by kernel_rfl) (fun _ _ _ h => h) (by rfl) ?ht36 hH0 ?rt36
                  case ht36 => ((intro W hSw); obtain ⟨q0, q1, q2, q3, q4⟩ := hSw; go_simp; (try with_reducible rfl))
                  try simp only [Act.put, List.setIfInBounds_toArray, List.set_cons_zero, List.set_cons_succ]
                  refine Fe.any_take 2 114 ?vt37 rfl rfl (by kernel_rfl) (by kernel_rfl) (by kernel_rfl) (fun _ _ _ h => h) (by rfl) ?ht37 hH0 ?rt37
                  case ht37 => ((intro W hSw); obtain ⟨q0, q1, q2, q3, q4⟩ := hSw; go_simp; (try with_reducible rfl))
                  try simp only [Act.put, List.setIfInBounds_toArray, List.set_cons_zero, List.set_cons_succ]
                  refine Fe.any_take 3 115 ?vt38 rfl rfl (by kernel_rfl) (by kernel_rfl) (by kernel_rfl) (fun _ _ _ h => h) (by rfl) ?ht38 hH0 ?rt38
                  case ht38 => ((intro W hSw); obtain ⟨q0, q1, q2, q3, q4⟩ := hSw; go_simp; (try with_reducible rfl))
                  try simp only [Act.put, List.setIfInBounds_toArray, List.set_cons_zero, List.set_cons_succ]
                  refine Fe.any_take 4 116 ?vt39 rfl rfl (by kernel_rfl) (by kernel_rfl) (by kernel_rfl) (fun _ _ _ h => h) (by rfl) ?ht39 hH0 ?rt39
                  case ht39 => ((intro W hSw); obtain ⟨q0, q1, q2, q3, q4⟩ := hSw; go_simp; (try with_reducible rfl))
                  try simp only [Act.put, List.setIfInBounds_toArray, List.set_cons_zero, List.set_cons_succ]
                  refine Fe.any_take 5 117 ?vt40 rfl rfl (by kernel_rfl) (by kernel_rfl) (by kernel_rfl) (fun _ _ _ h => h) (by rfl) ?ht40 hH0 ?rt40
                  case ht40 => ((intro W hSw); obtain ⟨q0, q1, q2, q3, q4⟩ := hSw; go_simp; (try with_reducible rfl))
                  try simp only [Act.put, List.setIfInBounds_toArray, List.set_cons_zero, List.set_cons_succ]
                  refine Fe.any_take 6 118 ?vt41 rfl rfl (by kernel_rfl) (by kernel_rfl) (by kernel_rfl) (fun _ _ _ h => h) (by rfl) ?ht41 hH0 ?rt41
                  case ht41 => ((intro W hSw); obtain ⟨q0, q1, q2, q3, q4⟩ := hSw; go_simp; (try with_reducible rfl))
                  try simp only [Act.put, List.setIfInBounds_toArray, List.set_cons_zero, List.set_cons_succ]
                  refine Fe.any_take 7 119 ?vt42 rfl rfl (by kernel_rfl) (by kernel_rfl) (by kernel_rfl) (fun _ _ _ h => h) (by rfl) ?ht42 hH0 ?rt42
                  case ht42 => ((intro W hSw); obtain ⟨q0, q1, q2, q3, q4⟩ := hSw; go_simp; (try with_reducible rfl))
                  try simp only [Act.put, List.setIfInBounds_toArray, List.set_cons_zero, List.set_cons_succ]
                  refine Fe.any_take 8 120 ?vt43 rfl rfl (by kernel_rfl) (by kernel_rfl) (by kernel_rfl) (fun _ _ _ h => h) (by rfl) ?ht43 hH0 ?rt43
                  case ht43 => ((intro W hSw); obtain ⟨q0, q1, q2, q3, q4⟩ := hSw; go_simp; (try with_reducible rfl))
                  try simp only [Act.put, List.setIfInBounds_toArray, List.set_cons_zero, List.set_cons_succ]
                  refine Fe.any_take 9 121 ?vt44 rfl rfl (by kernel_rfl) (by kernel_rfl) (by kernel_rfl) (fun _ _ _ h => h) (by rfl) ?ht44 hH0 ?rt44
                  case ht44 => ((intro W hSw); obtain ⟨q0, q1, q2, q3, q4⟩ := hSw; go_simp; (try with_reducible rfl))
                  try simp only [Act.put, List.setIfInBounds_toArray, List.set_cons_zero, List.set_cons_succ]
                  refine Fe.any_take 10 122 ?vt45 rfl rfl (by kernel_rfl) (by kernel_rfl) (by kernel_rfl) (fun _ _ _ h => h) (by rfl) ?ht45 hH0 ?rt45
                  case ht45 => ((intro W hSw); obtain ⟨q0, q1, q2, q3, q4⟩ := hSw; go_simp; (try with_reducible rfl))
                  try simp only [Act.put, List.setIfInBounds_toArray, List.set_cons_zero, List.set_cons_succ]
                  refine Fe.any_take 11 123 ?vt46 rfl rfl (by kernel_rfl) (by kernel_rfl) (by kernel_rfl) (fun _ _ _ h => h) (by rfl) ?ht46 hH0 ?rt46
                  case ht46 => ((intro W hSw); obtain ⟨q0, q1, q2, q3, q4⟩ := hSw; go_simp; (try with_reducible rfl))
                  try simp only [Act.put, List.setIfInBounds_toArray, List.set_cons_zero, List.set_cons_succ]
                  refine Fe.any_take 12 124 ?vt47 rfl rfl (by kernel_rfl) (by kernel_rfl) (by kernel_rfl) (fun _ _ _ h => h) (by rfl) ?ht47 hH0 ?rt47
                  case ht47 => ((intro W hSw); obtain ⟨q0, q1, q2, q3, q4⟩ := hSw; go_simp; (try with_reducible rfl))
                  try simp only [Act.put, List.setIfInBounds_toArray, List.set_cons_zero, List.set_cons_succ]
                  refine Fe.any_take 13 125 ?vt48 rfl rfl (by kernel_rfl) (by kernel_rfl) (by kernel_rfl) (fun _ _ _ h => h) (by rfl) ?ht48 hH0 ?rt48
                  case ht48 => ((intro W hSw); obtain ⟨q0, q1, q2, q3, q4⟩ := hSw; go_simp; (try with_reducible rfl))
                  try simp only [Act.put, List.setIfInBounds_toArray, List.set_cons_zero, List.set_cons_succ]
                  refine Fe.any_take 14 126 ?vt49 rfl rfl (by kernel_rfl) (by kernel_rfl) (by kernel_rfl) (fun _ _ _ h => h) (by rfl) ?ht49 hH0 ?rt49
                  case ht49 => ((intro W hSw); obtain ⟨q0, q1, q2, q3, q4⟩ := hSw; go_simp; (try with_reducible rfl))
                  try simp only [Act.put, List.setIfInBounds_toArray, List.set_cons_zero, List.set_cons_succ]
                  refine Fe.any_take 15 127 ?vt50 rfl rfl (by kernel_rfl) (by kernel_rfl) (by kernel_rfl) (fun _ _ _ h => h) (by rfl) ?ht50 hH0 ?rt50
                  case ht50 => ((intro W hSw); obtain ⟨q0, q1, q2, q3, q4⟩ := hSw; go_simp; (try with_reducible rfl))
                  try simp only [Act.put, List.setIfInBounds_toArray, List.set_cons_zero, List.set_cons_succ]
                  refine Fe.any_take 16 128 ?vt51 rfl rfl (by kernel_rfl) (by kernel_rfl) (by kernel_rfl) (fun _ _ _ h => h) (by rfl) ?ht51 hH0 ?rt51
                  case ht51 => ((intro W hSw); obtain ⟨q0, q1, q2, q3, q4⟩ := hSw; go_simp; (try with_reducible rfl))
                  try simp only [Act.put, List.setIfInBounds_toArray, List.set_cons_zero, List.set_cons_succ]
                  refine Fe.any_take 17 129 ?vt52 rfl rfl (by kernel_rfl) (by kernel_rfl) (by kernel_rfl) (fun _ _ _ h => h) (by rfl) ?ht52 hH0 ?rt52
                  case ht52 => ((intro W hSw); obtain ⟨q0, q1, q2, q3, q4⟩ := hSw; go_simp; (try with_reducible rfl))
                  try simp only [Act.put, List.setIfInBounds_toArray, List.set_cons_zero, List.set_cons_succ]
                  refine Fe.any_take 18 130 ?vt53 rfl rfl (by kernel_rfl) (by kernel_rfl) (by kernel_rfl) (fun _ _ _ h => h) (by rfl) ?ht53 hH0 ?rt53
                  case ht53 => ((intro W hSw); obtain ⟨q0, q1, q2, q3, q4⟩ := hSw; go_simp; (try with_reducible rfl))
                  try simp only [Act.put, List.setIfInBounds_toArray, List.set_cons_zero, List.set_cons_succ]
                  refine Fe.any_take 19 131 ?vt54 rfl rfl (by kernel_rfl) (by kernel_rfl) (by kernel_rfl) (fun _ _ _ h => h) (by rfl) ?ht54 hH0 ?rt54
                  case ht54 => ((intro W hSw); obtain ⟨q0, q1, q2, q3, q4⟩ := hSw; go_simp; (try with_reducible rfl))
                  try simp only [Act.put, List.setIfInBounds_toArray, List.set_cons_zero, List.set_cons_succ]
                  refine Fe.any_take 20 132 ?vt55 rfl rfl (by kernel_rfl) (by kernel_rfl) (by kernel_rfl) (fun _ _ _ h => h) (by rfl) ?ht55 hH0 ?rt55
                  case ht55 => ((intro W hSw); obtain ⟨q0, q1, q2, q3, q4⟩ := hSw; go_simp; (try with_reducible rfl))
                  try simp only [Act.put, List.setIfInBounds_toArray, List.set_cons_zero, List.set_cons_succ]
                  refine Fe.any_take 21 133 ?vt56 rfl rfl (by kernel_rfl) (by kernel_rfl) (by kernel_rfl) (fun _ _ _ h => h) (by rfl) ?ht56 hH0 ?rt56
                  case ht56 => ((intro W hSw); obtain ⟨q0, q1, q2, q3, q4⟩ := hSw; go_simp; (try with_reducible rfl))
                  try simp only [Act.put, List.setIfInBounds_toArray, List.set_cons_zero, List.set_cons_succ]
                  refine Fe.any_take 22 134 ?vt57 rfl rfl (by kernel_rfl) (by kernel_rfl) (by kernel_rfl) (fun _ _ _ h => h) (by rfl) ?ht57 hH0 ?rt57
                  case ht57 => ((intro W hSw); obtain ⟨q0, q1, q2, q3, q4⟩ := hSw; go_simp; (try with_reducible rfl))
                  try simp only [Act.put, List.setIfInBounds_toArray, List.set_cons_zero, List.set_cons_succ]
                  refine Fe.any_take 23 135 ?vt58 rfl rfl (by kernel_rfl) (by kernel_rfl) (by kernel_rfl) (fun _ _ _ h => h) (by rfl) ?ht58 hH0 ?rt58
                  case ht58 => ((intro W hSw); obtain ⟨q0, q1, q2, q3, q4⟩ := hSw; go_simp; (try with_reducible rfl))
                  try simp only [Act.put, List.setIfInBounds_toArray, List.set_cons_zero, List.set_cons_succ]
                  refine Fe.any_take 24 136 ?vt59 rfl rfl (by kernel_rfl) (by kernel_rfl) (by kernel_rfl) (fun _ _ _ h => h) (by rfl) ?ht59 hH0 ?rt59
                  case ht59 => ((intro W hSw); obtain ⟨q0, q1, q2, q3, q4⟩ := hSw; go_simp; (try with_reducible rfl))
                  try simp only [Act.put, List.setIfInBounds_toArray, List.set_cons_zero, List.set_cons_succ]
                  refine Fe.any_take 25 137 ?vt60 rfl rfl (by kernel_rfl) (by kernel_rfl) (by kernel_rfl) (fun _ _ _ h => h) (by rfl) ?ht60 hH0 ?rt60
                  case ht60 => ((intro W hSw); obtain ⟨q0, q1, q2, q3, q4⟩ := hSw; go_simp; (try with_reducible rfl))
                  try simp only [Act.put, List.setIfInBounds_toArray, List.set_cons_zero, List.set_cons_succ]
                  refine Fe.any_take 26 138 ?vt61 rfl rfl (by kernel_rfl) (by kernel_rfl) (by kernel_rfl) (fun _ _ _ h => h) (by rfl) ?ht61 hH0 ?rt61
                  case ht61 => ((intro W hSw); obtain ⟨q0, q1, q2, q3, q4⟩ := hSw; go_simp; (try with_reducible rfl))
                  try simp only [Act.put, List.setIfInBounds_toArray, List.set_cons_zero, List.set_cons_succ]
                  refine Fe.any_take 27 139 ?vt62 rfl rfl (by kernel_rfl) (by kernel_rfl) (by kernel_rfl) (fun _ _ _ h => h) (by rfl) ?ht62 hH0 ?rt62
                  case ht62 => ((intro W hSw); obtain ⟨q0, q1, q2, q3, q4⟩ := hSw; go_simp; (try with_reducible rfl))
                  try simp only [Act.put, List.setIfInBounds_toArray, List.set_cons_zero, List.set_cons_succ]
                  refine Fe.any_take 28 140 ?vt63 rfl rfl (by kernel_rfl) (by kernel_rfl) (by kernel_rfl) (fun _ _ _ h => h) (by rfl) ?ht63 hH0 ?rt63
                  case ht63 => ((intro W hSw); obtain ⟨q0, q1, q2, q3, q4⟩ := hSw; go_simp; (try with_reducible rfl))
                  try simp only [Act.put, List.setIfInBounds_toArray, List.set_cons_zero, List.set_cons_succ]
                  refine Fe.any_take 29 141 ?vt64 rfl rfl (by kernel_rfl) (by kernel_rfl) (by kernel_rfl) (fun _ _ _ h => h) (by rfl) ?ht64 hH0 ?rt64
                  case ht64 => ((intro W hSw); obtain ⟨q0, q1, q2, q3, q4⟩ := hSw; go_simp; (try with_reducible rfl))
                  try simp only [Act.put, List.setIfInBounds_toArray, List.set_cons_zero, List.set_cons_succ]
                  refine Fe.any_take 30 142 ?vt65 rfl rfl (by kernel_rfl) (by kernel_rfl) (by kernel_rfl) (fun _ _ _ h => h) (by rfl) ?ht65 hH0 ?rt65
                  case ht65 => ((intro W hSw); obtain ⟨q0, q1, q2, q3, q4⟩ := hSw; go_simp; (try with_reducible rfl))
                  try simp only [Act.put, List.setIfInBounds_toArray, List.set_cons_zero, List.set_cons_succ]
                  refine Fe.any_take 31 143 ?vt66 rfl rfl (by kernel_rfl) (by kernel_rfl) (by kernel_rfl) (fun _ _ _ h => h) (by rfl) ?ht66 hH0 ?rt66
                  case ht66 => ((intro W hSw); obtain ⟨q0, q1, q2, q3, q4⟩ := hSw; go_simp; (try with_reducible rfl))
                  try simp only [Act.put, List.setIfInBounds_toArray, List.set_cons_zero, List.set_cons_succ]
                  refine Fe.any_take 32 144 ?vt67 rfl rfl (by kernel_rfl) (by kernel_rfl) (by kernel_rfl) (fun _ _ _ h => h) (by rfl) ?ht67 hH0 ?rt67
                  case ht67 => ((intro W hSw); obtain ⟨q0, q1, q2, q3, q4⟩ := hSw; go_simp; (try with_reducible rfl))
                  try simp only [Act.put, List.setIfInBounds_toArray, List.set_cons_zero, List.set_cons_succ]
                  refine Fe.any_take 33 145 ?vt68 rfl rfl (by kernel_rfl) (by kernel_rfl) (by kernel_rfl) (fun _ _ _ h => h) (by rfl) ?ht68 hH0 ?rt68
                  case ht68 => ((intro W hSw); obtain ⟨q0, q1, q2, q3, q4⟩ := hSw; go_simp; (try with_reducible rfl))
                  try simp only [Act.put, List.setIfInBounds_toArray, List.set_cons_zero, List.set_cons_succ]
                  refine Fe.any_take 34 146 ?vt69 rfl rfl (by kernel_rfl) (by kernel_rfl) (by kernel_rfl) (fun _ _ _ h => h) (by rfl) ?ht69 hH0 ?rt69
                  case ht69 => ((intro W hSw); obtain ⟨q0, q1, q2, q3, q4⟩ := hSw; go_simp; (try with_reducible rfl))
                  try simp only [Act.put, List.setIfInBounds_toArray, List.set_cons_zero, List.set_cons_succ]
                  refine Fe.any_take 35 147 ?vt70 rfl rfl (by kernel_rfl) (by kernel_rfl) (by kernel_rfl) (fun _ _ _ h => h) (by rfl) ?ht70 hH0 ?rt70
                  case ht70 => ((intro W hSw); obtain ⟨q0, q1, q2, q3, q4⟩ := hSw; go_simp; (try with_reducible rfl))
                  try simp only [Act.put, List.setIfInBounds_toArray, List.set_cons_zero, List.set_cons_succ]
                  refine Fe.any_take 36 148 ?vt71 rfl rfl (by kernel_rfl) (by kernel_rfl) (by kernel_rfl) (fun _ _ _ h => h) (by rfl) ?ht71 hH0 ?rt71
                  case ht71 => ((intro W hSw); obtain ⟨q0, q1, q2, q3, q4⟩ := hSw; go_simp; (try with_reducible rfl))
                  try simp only [Act.put, List.setIfInBounds_toArray, List.set_cons_zero, List.set_cons_succ]
                  refine Fe.any_take 37 149 ?vt72 rfl rfl (by kernel_rfl) (by kernel_rfl) (by kernel_rfl) (fun _ _ _ h => h) (by rfl) ?ht72 hH0 ?rt72
                  case ht72 => ((intro W hSw); obtain ⟨q0, q1, q2, q3, q4⟩ := hSw; go_simp; (try with_reducible rfl))
                  try simp only [Act.put, List.setIfInBounds_toArray, List.set_cons_zero, List.set_cons_succ]
                  refine Fe.any_take 38 150 ?vt73 rfl rfl (by kernel_rfl) (by kernel_rfl) (by kernel_rfl) (fun _ _ _ h => h) (by rfl) ?ht73 hH0 ?rt73
                  case ht73 => ((intro W hSw); obtain ⟨q0, q1, q2, q3, q4⟩ := hSw; go_simp; (try with_reducible rfl))
                  try simp only [Act.put, List.setIfInBounds_toArray, List.set_cons_zero, List.set_cons_succ]
                  refine Fe.any_take 39 151 ?vt74 rfl rfl (by kernel_rfl) (by kernel_rfl) (by kernel_rfl) (fun _ _ _ h => h) (by rfl) ?ht74 hH0 ?rt74
                  case ht74 => ((intro W hSw); obtain ⟨q0, q1, q2, q3, q4⟩ := hSw; go_simp; (try with_reducible rfl))
                  try simp only [Act.put, List.setIfInBounds_toArray, List.set_cons_zero, List.set_cons_succ]
                  refine Fe.any_take 40 152 ?vt75 rfl rfl (by kernel_rfl) (by kernel_rfl) (by kernel_rfl) (fun _ _ _ h => h) (by rfl) ?ht75 hH0 ?rt75
                  case ht75 => ((intro W hSw); obtain ⟨q0, q1, q2, q3, q4⟩ := hSw; go_simp; (try with_reducible rfl))
                  try simp only [Act.put, List.setIfInBounds_toArray, List.set_cons_zero, List.set_cons_succ]
                  refine Fe.any_take 41 153 ?vt76 rfl rfl (by kernel_rfl) (by kernel_rfl) (by kernel_rfl) (fun _ _ _ h => h) (by rfl) ?ht76 hH0 ?rt76
                  case ht76 => ((intro W hSw); obtain ⟨q0, q1, q2, q3, q4⟩ := hSw; go_simp; (try with_reducible rfl))
                  try simp only [Act.put, List.setIfInBounds_toArray, List.set_cons_zero, List.set_cons_succ]
                  refine Fe.any_take 42 154 ?vt77 rfl rfl (by kernel_rfl) (by kernel_rfl) (by kernel_rfl) (fun _ _ _ h => h) (by rfl) ?ht77 hH0 ?rt77
                  case ht77 => ((intro W hSw); obtain ⟨q0, q1, q2, q3, q4⟩ := hSw; go_simp; (try with_reducible rfl))
                  try simp only [Act.put, List.setIfInBounds_toArray, List.set_cons_zero, List.set_cons_succ]
                  refine Fe.any_take 43 155 ?vt78 rfl rfl (by kernel_rfl) (by kernel_rfl) (by kernel_rfl) (fun _ _ _ h => h) (by rfl) ?ht78 hH0 ?rt78
                  case ht78 => ((intro W hSw); obtain ⟨q0, q1, q2, q3, q4⟩ := hSw; go_simp; (try with_reducible rfl))
                  try simp only [Act.put, List.setIfInBounds_toArray, List.set_cons_zero, List.set_cons_succ]
                  refine Fe.any_take 44 156 ?vt79 rfl rfl (by kernel_rfl) (by kernel_rfl) (by kernel_rfl) (fun _ _ _ h => h) (by rfl) ?ht79 hH0 ?rt79
                  case ht79 => ((intro W hSw); obtain ⟨q0, q1, q2, q3, q4⟩ := hSw; go_simp; (try with_reducible rfl))
                  try simp only [Act.put, List.setIfInBounds_toArray, List.set_cons_zero, List.set_cons_succ]
                  clear hH0
                  refine wpAnyH_done (by kernel_rfl) ?_ _
                  refine NoPanic.normal ?_
                  go_wp2
                  go_roundw
                  case rel => exact ⟨k2 + 1, by omega, by go_num, HBQ.out.drew⟩
                  case measure => simp [intOf]; omega
                · have e1 : ¬ (k2 : Int) < 2 := by omega
                  have e2 : decide ((k2 : Int) < 2) = false := by simp; omega
                  have S_11 := Lib.hid (S_10.out.below HBQ.out)
                  have RGp : Hid (∃ B, St.OwnG _ B (.slice (some ⟨g5, 0, none⟩) 2 c5) smG) := Lib.hid ⟨_, RG_10.out.below HBQ.out⟩
                  have RAp : Hid (∃ B, Pu.OwnG _ B (.slice (some ⟨g6, 0, none⟩) 2 c6) smA) := Lib.hid ⟨_, RA_10.out.below HBQ.out⟩
                  have R0 := Lib.hid (cw_room S_11.out 0)
                  have R1 := Lib.hid (cw_room S_11.out 1)
                  obtain ⟨⟨r1, r2⟩, r3, r4⟩ := FR.out
                  obtain ⟨r, hr⟩ : ∃ r, Do.roomI q7.d.F 0 = r := ⟨_, rfl⟩
                  obtain ⟨s, hs⟩ : ∃ r, Do.roomI q7.d.F 1 = r := ⟨_, rfl⟩
                  rw [hr] at r1 r2 R0
                  rw [hs] at r3 r4 R1
                  have d1 : decide (r < 0) = false := by simp; omega
                  have d2 : decide (3 < r) = false := by simp; omega
                  have d3 : decide (s < 0) = false := by simp; omega
                  have d4 : decide (5 < s) = false := by simp; omega
                  clear r1 r2 r3 r4 hr hs
                  go_wp2_with fail
                  with_reducible refine R0.out.mono ?_
                  rintro e _ ⟨rfl, rfl⟩
                  go_wp2_with fail
                  with_reducible refine R0.out.mono ?_
                  rintro e _ ⟨rfl, rfl⟩
                  go_wp2_with fail
                  with_reducible refine R1.out.mono ?_
                  rintro e _ ⟨rfl, rfl⟩
                  go_wp2_with fail
                  with_reducible refine R1.out.mono ?_
                  rintro e _ ⟨rfl, rfl⟩
                  go_wp2
                  go_roundw
                  case rel => exact ⟨j + 1, b7, q7, by omega, by omega, by go_num, S_11.out, HQ7.out, RGp.out, RAp.out⟩
                  case measure => simp [intOf]; omega
        · have h3 : decide ((j : Int) < 60) = false := by simp; omega
          have hlt2 : (j : Int) < (n : Int) := by omega
          go_wp2_with fail
          with_reducible refine (known_any _).mono ?_
          rintro e w90 ⟨rfl, hb⟩
          have S_90 := Lib.hid (S_4.out.below hb)
          clear hb
          go_wp2
          go_ret
          exact ⟨rfl, S_90.out.bel⟩
      · have hlt3 : decide ((j : Int) < (n : Int)) = false := by simp; omega
        go_wp2_with fail
        with_reducible refine (known_any _).mono ?_
        rintro e w90 ⟨rfl, hb⟩
        have S_90 := Lib.hid (S_4.out.below hb)
        clear hb
        go_wp2
        go_ret
        exact ⟨rfl, S_90.out.bel⟩
  · clear HT
    go_wp2_with fail
    with_reducible refine (known_any _).mono ?_
    rintro e w90 ⟨rfl, hb⟩
    have S_90 := Lib.hid (S_2.out.below hb)
    clear hb
    go_wp2
    go_ret
    exact ⟨rfl, S_90.out.bel⟩

end Go.Proofs.YtpbclmnhkmcknaaGreat
