/-
  The walk of StockGone.
-/
import Derived.Test.YtimoobhnhldgbaaGoneP
import Derived.Test.YtimoobhnhldgbaaMostWalk
namespace Go.Proofs.Ytimoobhnhldgbaa
open Go.Proofs Go.RowKit
set_option maxRecDepth 100000
set_option linter.unusedVariables false
set_option linter.unusedSimpArgs false

def GnR (w : World) (a : List Ac) (b : SB) (i : Value) (wr : World) : Prop := ∃ (j : Nat) (q : Ss), j ≤ a.length ∧ j ≤ 100 ∧ i = .int .i64 (j : Int) ∧ SW w wr b q ∧ q.H.length ≤ j
def GnI (x : List UInt8) (o : Nat) (q : Ss) (w : World) (b : SB) (v12 : Value) (y : World) (vh vi : Value) (wr : World) : Prop := ∃ k : Nat, k ≤ q.H.length ∧ vi = .int .i64 (k : Int) ∧ vh = .int .i64 (lastH o x (q.H.take k)) ∧ SW w wr b q ∧ RH wr b v12 q.H ∧ Below y.heap.size y wr

set_option maxHeartbeats 16000000 in
theorem stockGone_walk (A : Option Addr) (n c : Nat) (l : List Gd) (B : Option Addr) (m d : Nat) (a : List Ac) (x : List UInt8) (w : World) (hG : Gin w A n l) (hn : n ≤ maxLen) (hL : GoodsOk l) (hA : Ain w B m a) (hm : m ≤ maxLen) (hAO : ActsOk a) (hx : x.length ≤ maxLen)
    (KN : ∀ W, Calls Try.prog 10 #[] W fun e w' => e = .returned (.bool true) ∧ Below W.heap.size W w') :
    Calls Try.prog 8 #[.slice A n c, .slice B m d, encStr x] w fun e w' => e = .returned (.bool true) ∧ Below w.heap.size w w' := by
  have HG := Lib.hid hG
  have HA := Lib.hid hA
  have HL := Lib.hid hL
  have HAO := Lib.hid hAO
  have HN := Lib.hid hG.1
  have HM := Lib.hid hA.1
  have HK := Lib.hid KN
  have HC := Lib.hid (long_any A n c l B m d a w hG hA hm hn)
  have hmm : (m : Int) ≤ 9223372036854775807 := by unfold maxLen at hm; omega
  clear hG hA hL hAO KN hm
  go_enter Try.func8, Try.ntmps8
  go_wp2_with fail
  with_reducible refine HC.out.mono ?_
  rintro e w1 ⟨rfl, rfl | ⟨rfl, hs⟩⟩
  · go_wp2_with fail
    with_reducible refine (HK.out _).mono ?_
    rintro e w2 ⟨rfl, hb⟩
    have HB := Lib.hid hb
    clear hb
    go_wp2
    go_ret
    exact ⟨rfl, HB.out⟩
  · have HS := Lib.hid hs
    have hn2 : n ≤ 200 := by have := hs.1; have := HN.out; omega
    clear hs HC hn
    obtain ⟨bz, hbz⟩ : ∃ bz, decide ((1000 : Int) < (x.length : Int)) = bz := ⟨_, rfl⟩
    cases bz
    rotate_left
    · go_wp2_with fail
      with_reducible refine (HK.out _).mono ?_
      rintro e w2 ⟨rfl, hb⟩
      have HB := Lib.hid hb
      clear hb
      go_wp2
      go_ret
      exact ⟨rfl, HB.out⟩
    go_wp2_with fail
    with_reducible refine (sw_new (Below.refl _ _) A n c l HG.out (by omega) HS.out.names).mono ?_
    rintro e w1 ⟨hb, ⟨h1, rfl⟩ | ⟨K, b, h1, rfl, hs, -⟩⟩
    · have HB := Lib.hid hb
      clear hb h1
      go_wp2_with fail
      with_reducible refine (HK.out _).mono ?_
      rintro e w2 ⟨rfl, hb⟩
      have HB2 := Lib.hid (HB.out.trans (hb.mono HB.out.size))
      clear hb
      go_wp2
      go_ret
      exact ⟨rfl, HB2.out⟩
    · have S_1 := Lib.hid hs
      have HNW := Lib.hid (newOf_some h1).2.2
      clear hb h1 hs
      go_wp2_with fail
      go_loopw [9] (fun i wr => GnR w a b i wr) (fun i _ => 101 - (intOf i).toNat)
      case atStart => exact ⟨0, ⟨K, []⟩, by omega, by omega, rfl, S_1.out, Nat.le_refl _⟩
      case round =>
        clear S_1
        obtain ⟨j, q, hj, hj2, rfl, hS, hH⟩ := hrel
        have S_2 := Lib.hid hS
        have HH := Lib.hid hH
        clear hS hH
        have hjm : j ≤ m := by have := HM.out; omega
        by_cases hlt : j < m
        · have hlt2 : (j : Int) < (m : Int) := by omega
          by_cases hq3 : j < 100
          · have e2 : decide ((j : Int) < 100) = true := by simp; omega
            have hlt3 : j < a.length := by have := HM.out; omega
            obtain ⟨b0, off, rfl, hbl, hcell⟩ := HA.out.2 (by omega)
            obtain ⟨x0, x1, x2, x3⟩ := hcell j hlt3
            obtain ⟨xx, hxx⟩ : ∃ z, a[j] = z := ⟨_, rfl⟩
            have HXO : Hid (in64 xx.t ∧ xx.o < 4294967296 ∧ xx.x.length ≤ maxLen ∧ in64 xx.n) := Lib.hid (by have := HAO.out a[j] (List.getElem_mem hlt3); rwa [hxx] at this)
            rw [hxx] at x0 x1 x2 x3
            clear hcell hxx
            obtain ⟨xt, xo, xn, xk⟩ := xx
            dsimp only at x0 x1 x2 x3 HXO
            have HX0 := Lib.hid x0
            have HX1 := Lib.hid x1
            have HX2 := Lib.hid x2
            have HX3 := Lib.hid x3
            clear x0 x1 x2 x3
            have HGB := Lib.hid (goneN_bd S_2.out.inv x)
            have HHB := Lib.hid (heldOf_bd S_2.out.inv xo x)
            have HGA := Lib.hid (gone_act S_2.out.inv ⟨xt, xo, xn, xk⟩ x)
            go_wp2_with fail
            with_reducible refine (sw_gone S_2.out x hx).mono ?_
            rintro e w3 ⟨rfl, rfl⟩
            go_wp2_with fail
            with_reducible refine (sw_holds S_2.out (by have := HH.out; omega)).mono ?_
            rintro e w3 ⟨v3, rfl, hr, hs, hf⟩
            have S_3 := Lib.hid hs
            have RH_3 := Lib.hid hr
            clear hs hr hf
            obtain ⟨A3, c3, rfl, -, hc3⟩ := RH_3.out.hin
            dsimp only at hc3 ⊢
            obtain ⟨hz1, hz2⟩ := hc3
            have hz3 : (q.H.length : Int) ≤ 100 := by have := HH.out; omega
            clear hz1 hz2
            go_wp2_with fail
            go_loopw [11, 13] (fun vh vi wr => GnI x xo q w b (.slice A3 q.H.length c3) w3 vh vi wr) (fun _ i _ => q.H.length - (intOf i).toNat)
            case atStart => exact ⟨0, by omega, rfl, rfl, S_3.out, RH_3.out, Below.refl _ _⟩
            case round =>
              clear S_3 RH_3
              obtain ⟨k, hk, rfl, rfl, hS, hR, hB⟩ := hrel
              have S_4 := Lib.hid hS
              have RH_4 := Lib.hid hR
              have HB4 := Lib.hid hB
              clear hS hR hB
              by_cases hk1 : k < q.H.length
              · have hk2 : (k : Int) < (q.H.length : Int) := by omega
                obtain ⟨A4, c4, e4, hg4, -⟩ := RH_4.out.hin
                injection e4 with q1 q2 q3
                subst q1 q3
                obtain ⟨b4, o4, rfl, hb4, hcell4⟩ := hg4.2 (by omega)
                obtain ⟨y0, y1, y2⟩ := hcell4 k hk1
                obtain ⟨yy, hyy⟩ : ∃ z, q.H[k] = z := ⟨_, rfl⟩
                rw [hyy] at y0 y1 y2
                have HST : Hid (lastH xo x (q.H.take (k + 1)) = lastF xo x (lastH xo x (q.H.take k)) yy) := Lib.hid (by rw [List.take_succ_eq_append_getElem hk1, lastH_snoc, hyy])
                clear hcell4 hg4 hyy q2
                have x0 := HX0.out
                have x1 := HX1.out
                have x2 := HX2.out
                have x3 := HX3.out
                rw [← S_4.out.bel.cell (p := ⟨b0, off + j * 4, none⟩) hbl] at x0
                rw [← S_4.out.bel.cell (p := ⟨b0, off + j * 4 + 1, none⟩) hbl] at x1
                rw [← S_4.out.bel.cell (p := ⟨b0, off + j * 4 + 2, none⟩) hbl] at x2
                rw [← S_4.out.bel.cell (p := ⟨b0, off + j * 4 + 3, none⟩) hbl] at x3
                generalize lastH xo x (q.H.take k) = hv at *
                by_cases hoo : yy.o = xo
                · have e5 : ((yy.o : Int) == (xo : Int)) = true := by simp; omega
                  by_cases hnn : yy.n = x
                  · have hst2 : lastH xo x (q.H.take (k + 1)) = yy.k := by rw [HST.out]; exact if_pos ⟨hoo, hnn⟩
                    have HST2 := Lib.hid hst2
                    rw [hnn] at y1
                    clear hst2 HST hoo hnn
                    go_wp2_with fail
                    go_quiet (fail)
                    go_wp2
                    go_roundw
                    case rel => exact ⟨k + 1, by omega, by go_num, by rw [HST2.out], S_4.out.drewN _, RH_4.out.below (below_drewN (Below.refl _ _) _), below_drewN HB4.out _⟩
                    case measure => simp [intOf]; omega
                  · have hst2 : lastH xo x (q.H.take (k + 1)) = hv := by rw [HST.out]; exact if_neg (fun h => hnn h.2)
                    have HST2 := Lib.hid hst2
                    have e6 : (yy.n == x) = false := by simpa using hnn
                    have e7 : decide (yy.n = x) = false := by simpa using hnn
                    clear hst2 HST hoo
                    go_wp2_with fail
                    go_quiet (fail)
                    go_wp2
                    go_roundw
                    case rel => exact ⟨k + 1, by omega, by go_num, by rw [HST2.out], S_4.out.drewN _, RH_4.out.below (below_drewN (Below.refl _ _) _), below_drewN HB4.out _⟩
                    case measure => simp [intOf]; omega
                · have e5 : ((yy.o : Int) == (xo : Int)) = false := by rw [beq_eq_false_iff_ne]; omega
                  have hst2 : lastH xo x (q.H.take (k + 1)) = hv := by rw [HST.out]; exact if_neg (fun h => hoo h.1)
                  have HST2 := Lib.hid hst2
                  clear hst2 HST hoo
                  go_wp2_with fail
                  go_quiet (fail)
                  go_wp2
                  go_roundw
                  case rel => exact ⟨k + 1, by omega, by go_num, by rw [HST2.out], S_4.out.drewN _, RH_4.out.below (below_drewN (Below.refl _ _) _), below_drewN HB4.out _⟩
                  case measure => simp [intOf]; omega
              · have hk2 : decide ((k : Int) < (q.H.length : Int)) = false := by simp; omega
                have hkk : k = q.H.length := by omega
                have HLH : Hid (lastH xo x (q.H.take k) = heldOf q.H xo x) := Lib.hid (by rw [hkk, List.take_length]; exact last_held S_4.out.inv.hs xo x)
                rw [HLH.out]
                generalize heldOf q.H xo x = hv at *
                clear hkk
                have x0 := HX0.out
                have x1 := HX1.out
                have x2 := HX2.out
                have x3 := HX3.out
                rw [← S_4.out.bel.cell (p := ⟨b0, off + j * 4, none⟩) hbl] at x0
                rw [← S_4.out.bel.cell (p := ⟨b0, off + j * 4 + 1, none⟩) hbl] at x1
                rw [← S_4.out.bel.cell (p := ⟨b0, off + j * 4 + 2, none⟩) hbl] at x2
                rw [← S_4.out.bel.cell (p := ⟨b0, off + j * 4 + 3, none⟩) hbl] at x3
                go_wp2_with fail
                with_reducible refine (sw_act S_4.out xt xo xn xk HXO.out.2.1 HXO.out.2.2.1 HXO.out.2.2.2 (by have := HH.out; omega)).mono ?_
                rintro e w5 ⟨rfl, hs, hf⟩
                have S_5 := Lib.hid hs
                have HH5 := Lib.hid (actS_len q ⟨xt, xo, xn, xk⟩).1
                clear hs hf x0 x1 x2 x3
                have x0 := HX0.out
                have x1 := HX1.out
                have x2 := HX2.out
                have x3 := HX3.out
                rw [← S_5.out.bel.cell (p := ⟨b0, off + j * 4, none⟩) hbl] at x0
                rw [← S_5.out.bel.cell (p := ⟨b0, off + j * 4 + 1, none⟩) hbl] at x1
                rw [← S_5.out.bel.cell (p := ⟨b0, off + j * 4 + 2, none⟩) hbl] at x2
                rw [← S_5.out.bel.cell (p := ⟨b0, off + j * 4 + 3, none⟩) hbl] at x3
                obtain ⟨h1, h2⟩ := HGB.out
                obtain ⟨h3, h4⟩ := HHB.out
                have hga := HGA.out
                clear HGA
                obtain ⟨va, hva⟩ : ∃ v, actV q ⟨xt, xo, xn, xk⟩ = v := ⟨_, rfl⟩
                obtain ⟨s1, hs1⟩ : ∃ v, decide (xt < 0) = v := ⟨_, rfl⟩
                obtain ⟨s2, hs2⟩ : ∃ v, decide (2 < xt) = v := ⟨_, rfl⟩
                unfold shipsB at hga
                (try dsimp only at hga)
                rw [hva, hs1, hs2] at hga
                generalize goneN q.K x = gv at *
                rw [hva]
                clear hva
                cases va <;> cases s1 <;> cases s2
                all_goals
                  simp only [Bool.or_false, Bool.false_or, Bool.or_true, Bool.true_or, Bool.and_false, Bool.and_true, Bool.false_eq_true, if_false, if_true] at hga
                  simp only [verd, Bool.false_eq_true, if_false, if_true]
                  have HGA := Lib.hid hga
                  clear hga
                  go_wp2_with fail
                  with_reducible refine (sw_gone S_5.out x hx).mono ?_
                  rintro e w6 ⟨he, rfl⟩
                  rw [HGA.out] at he
                  subst he
                  go_wp2
                  go_roundw
                  case rel => exact ⟨j + 1, actS q ⟨xt, xo, xn, xk⟩, by omega, by omega, by go_num, S_5.out, by have := HH5.out; have := HH.out; omega⟩
                  case measure => simp [intOf]; omega
          · have e2 : decide ((j : Int) < 100) = false := by simp; omega
            go_wp2_with fail
            with_reducible refine (HK.out _).mono ?_
            rintro e w3 ⟨rfl, hb⟩
            have S_3 := Lib.hid (S_2.out.below hb)
            clear hb
            go_wp2
            go_ret
            exact ⟨rfl, S_3.out.bel⟩
        · have hnl : decide ((j : Int) < (m : Int)) = false := by simp; omega
          go_wp2_with fail
          with_reducible refine (HK.out _).mono ?_
          rintro e w3 ⟨rfl, hb⟩
          have S_3 := Lib.hid (S_2.out.below hb)
          clear hb
          go_wp2
          go_ret
          exact ⟨rfl, S_3.out.bel⟩

end Go.Proofs.Ytimoobhnhldgbaa
