/-
  The walk of PurseApart.
-/
import Derived.Test.YtlgdjmmhdfpfeaaLawB
namespace Go.Proofs.Ytlgdjmmhdfpfeaa
open Go.Proofs Go.RowKit
set_option maxRecDepth 100000
set_option linter.unusedVariables false
set_option linter.unusedSimpArgs false

def ApT (n : Nat) (w : World) (a : List Ac) (b : SB) (i : Value) (wr : World) : Prop := ∃ (j : Nat) (q : Ss), j ≤ a.length ∧ j ≤ 100 ∧ i = .int .i64 (j : Int) ∧ SW w wr b q ∧ q.H.length ≤ j ∧ q.K.length = n
def ApN (w : World) (q : Ss) (b : SB) (c : Bool) (o : Nat) (x : List UInt8) (v9 v8 v10 : Value) (wr : World) : Prop := ∃ k : Nat, k ≤ q.H.length ∧ v10 = .int .i64 (k : Int) ∧ v8 = encStr (lastN c o x (q.H.take k)) ∧ SW w wr b q ∧ RH wr b v9 q.H
def ApI (w : World) (q q2 : Ss) (b : SB) (v11 v13 v14 : Value) (wr : World) : Prop := ∃ k : Nat, k ≤ q.K.length ∧ v14 = .int .i64 (k : Int) ∧ SW w wr b q2 ∧ RG wr b v11 q.K ∧ RG wr b v13 q2.K

set_option maxHeartbeats 16000000 in
theorem purseApart_walk (A : Option Addr) (n c : Nat) (l : List Kd) (B : Option Addr) (m d : Nat) (a : List Ac)  (w : World) (hG : Gin w A n l) (hn : n ≤ maxLen) (hL : GoodsOk l) (hA : Ain w B m a) (hm : m ≤ maxLen) (hAO : ActsOk a) 
    (KN : ∀ W, Calls Try.prog 10 #[] W fun e w' => e = .returned (.bool true) ∧ Below W.heap.size W w') :
    Calls Try.prog 8 #[.slice A n c, .slice B m d] w fun e w' => e = .returned (.bool true) ∧ Below w.heap.size w w' := by
  have HG := Lib.hid hG
  have HA := Lib.hid hA
  have HL := Lib.hid hL
  have HAO := Lib.hid hAO
  have HN := Lib.hid hG.1
  have HM := Lib.hid hA.1
  have HK := Lib.hid KN
  have HC := Lib.hid (long_any A n c l B m d a w hG hA hm hn)
  have hmm : (m : Int) ≤ 9223372036854775807 := by unfold maxLen at hm; omega
  clear hG hA hL hAO KN hm
  go_enter Try.func8, Try.ntmps8
  go_wp2_with fail
  with_reducible refine HC.out.mono ?_
  rintro e w1 ⟨rfl, rfl | ⟨rfl, hs⟩⟩
  · go_wp2_with fail
    with_reducible refine (HK.out _).mono ?_
    rintro e w2 ⟨rfl, hb⟩
    have HB := Lib.hid hb
    clear hb
    go_wp2
    go_ret
    exact ⟨rfl, HB.out⟩
  · have HS := Lib.hid hs
    have hn2 : n ≤ 200 := by have := hs.1; have := HN.out; omega
    clear hs HC hn
    go_wp2_with fail
    with_reducible refine (sw_new (Below.refl _ _) A n c l HG.out (by omega) HS.out.names).mono ?_
    rintro e w1 ⟨hb, ⟨h1, rfl⟩ | ⟨K, b, h1, rfl, hs, -⟩⟩
    · have HB := Lib.hid hb
      clear hb h1
      go_wp2_with fail
      with_reducible refine (HK.out _).mono ?_
      rintro e w2 ⟨rfl, hb⟩
      have HB2 := Lib.hid (HB.out.trans (hb.mono HB.out.size))
      clear hb
      go_wp2
      go_ret
      exact ⟨rfl, HB2.out⟩
    · have S_1 := Lib.hid hs
      have HNO := Lib.hid h1
      have HNW := Lib.hid (newOf_some h1).2.2
      clear hb h1 hs
      have HKN : Hid (K.length = n) := Lib.hid (HNW.out.len.trans HN.out)
      go_wp2_with fail
      go_loopw [7] (fun i wr => ApT n w a b i wr) (fun i _ => 101 - (intOf i).toNat)
      case atStart => exact ⟨0, ⟨K, []⟩, by omega, by omega, rfl, S_1.out, Nat.le_refl _, HKN.out⟩
      case round =>
        clear S_1
        obtain ⟨j, q, hj, hj2, rfl, hS, hH, hKL⟩ := hrel
        have S_2 := Lib.hid hS
        have HH := Lib.hid hH
        have HKL := Lib.hid hKL
        clear hS hH hKL
        have hjm : j ≤ m := by have := HM.out; omega
        by_cases hlt : j < m
        · have hlt2 : (j : Int) < (m : Int) := by omega
          by_cases hq3 : j < 100
          · have e2 : decide ((j : Int) < 100) = true := by simp; omega
            have hlt3 : j < a.length := by have := HM.out; omega
            obtain ⟨b0, off, rfl, hbl, hcell⟩ := HA.out.2 (by omega)
            obtain ⟨xx, hxx⟩ : ∃ q, a[j] = q := ⟨_, rfl⟩
            have hcj := hcell j hlt3
            rw [hxx] at hcj
            have HXO := Lib.hid (HAO.out a[j] (List.getElem_mem hlt3))
            rw [hxx] at HXO
            have HCJ := Lib.hid (And.intro hcj hbl)
            clear hcell hxx hcj hbl
            obtain ⟨xt, xo, xn, xk⟩ := xx
            dsimp only at HXO HCJ
            obtain ⟨⟨x0, x1, x2, x3⟩, hbl⟩ := HCJ.out
            rw [← S_2.out.bel.cell (p := ⟨b0, off + j * 4, none⟩) hbl] at x0
            rw [← S_2.out.bel.cell (p := ⟨b0, off + j * 4 + 1, none⟩) hbl] at x1
            rw [← S_2.out.bel.cell (p := ⟨b0, off + j * 4 + 2, none⟩) hbl] at x2
            rw [← S_2.out.bel.cell (p := ⟨b0, off + j * 4 + 3, none⟩) hbl] at x3
            clear hbl
            go_wp2_with fail
            with_reducible refine (sw_holds S_2.out (by have := HH.out; omega)).mono ?_
            rintro e w3 ⟨v3, rfl, hr, hs, hf⟩
            have S_3 := Lib.hid hs
            have R9_3 := Lib.hid hr
            clear hs hf hr
            clear x0 x1 x2 x3
            obtain ⟨A9, c9, rfl, -, -⟩ := R9_3.out.hin
            have hz1 : (q.H.length : Int) ≤ 100 := by have := HH.out; omega
            obtain ⟨cb, hcb⟩ : ∃ c, (!decide (xt = 0 ∨ xt = 1)) = c := ⟨_, rfl⟩
            have HNM := Lib.hid (last_name S_3.out.inv ⟨xt, xo, xn, xk⟩)
            dsimp only at HNM
            rw [hcb] at HNM
            have HCB := Lib.hid hcb
            clear hcb
            go_wp2_with fail
            go_loopw [8, 10] (fun v8 v10 wr => ApN w q b cb xo xn (.slice A9 q.H.length c9) v8 v10 wr) (fun _ i _ => q.H.length - (intOf i).toNat)
            case atStart => exact ⟨0, by omega, rfl, rfl, S_3.out, R9_3.out⟩
            case round =>
              clear S_3 R9_3
              obtain ⟨k, hk, rfl, rfl, hS, hR9⟩ := hrel
              have S_4 := Lib.hid hS
              have R9_4 := Lib.hid hR9
              clear hS hR9
              by_cases hk1 : k < q.H.length
              · have hk2 : (k : Int) < (q.H.length : Int) := by omega
                obtain ⟨g9, o9, hA9, -, u0, u1, -, -⟩ := R9_4.out.at k hk1
                subst hA9
                have HST := Lib.hid (show lastN cb xo xn (q.H.take (k + 1)) = lastF cb xo (lastN cb xo xn (q.H.take k)) q.H[k] from by rw [List.take_succ_eq_append_getElem hk1, lastN_snoc])
                obtain ⟨hh, hhh⟩ : ∃ z, q.H[k] = z := ⟨_, rfl⟩
                rw [hhh] at u0 u1 HST
                clear hhh
                obtain ⟨nm, hnm⟩ : ∃ z, lastN cb xo xn (q.H.take k) = z := ⟨_, rfl⟩
                rw [hnm] at HST ⊢
                clear hnm
                obtain ⟨⟨x0, x1, x2, x3⟩, hbl⟩ := HCJ.out
                rw [← S_4.out.bel.cell (p := ⟨b0, off + j * 4, none⟩) hbl] at x0
                rw [← S_4.out.bel.cell (p := ⟨b0, off + j * 4 + 1, none⟩) hbl] at x1
                rw [← S_4.out.bel.cell (p := ⟨b0, off + j * 4 + 2, none⟩) hbl] at x2
                rw [← S_4.out.bel.cell (p := ⟨b0, off + j * 4 + 3, none⟩) hbl] at x3
                clear hbl
                by_cases ho : hh.o = xo
                · have e3 : (((hh.o : Int) == (xo : Int)) : Bool) = true := by rw [ho]; simp
                  by_cases h0 : xt = 0
                  · have HEX : Hid (lastN cb xo xn (q.H.take (k + 1)) = nm) := Lib.hid (by rw [HST.out]; unfold lastF; rw [if_neg (by rw [← HCB.out, h0]; simp)])
                    have e4 : (xt == 0) = true := by simp [h0]
                    have e5 : (xt != 0) = false := by simp [h0]
                    rw [ho] at u0
                    clear ho h0 HST e3
                    go_wp2_with fail
                    go_quiet (fail)
                    clear x0 x1 x2 x3
                    go_wp2
                    go_roundw
                    case rel => exact ⟨k + 1, by omega, by go_num, by rw [HEX.out], S_4.out.drewN _, R9_4.out.drewN _⟩
                    case measure => simp [intOf]; omega
                  · have e4 : (xt == 0) = false := by simpa using h0
                    have e5 : (xt != 0) = true := by simpa using h0
                    by_cases h1 : xt = 1
                    · have HEX : Hid (lastN cb xo xn (q.H.take (k + 1)) = nm) := Lib.hid (by rw [HST.out]; unfold lastF; rw [if_neg (by rw [← HCB.out, h1]; simp)])
                      have e6 : (xt == 1) = true := by simp [h1]
                      have e7 : (xt != 1) = false := by simp [h1]
                      rw [ho] at u0
                      clear ho h0 h1 HST e3
                      go_wp2_with fail
                      go_quiet (fail)
                      clear x0 x1 x2 x3
                      go_wp2
                      go_roundw
                      case rel => exact ⟨k + 1, by omega, by go_num, by rw [HEX.out], S_4.out.drewN _, R9_4.out.drewN _⟩
                      case measure => simp [intOf]; omega
                    · have HEX : Hid (lastN cb xo xn (q.H.take (k + 1)) = hh.n) := Lib.hid (by rw [HST.out]; unfold lastF; rw [if_pos ⟨by rw [← HCB.out]; simp [h0, h1], ho⟩])
                      have e6 : (xt == 1) = false := by simpa using h1
                      have e7 : (xt != 1) = true := by simpa using h1
                      rw [ho] at u0
                      clear ho h0 h1 HST e3
                      go_wp2_with fail
                      go_quiet (fail)
                      clear x0 x1 x2 x3
                      go_wp2
                      go_roundw
                      case rel => exact ⟨k + 1, by omega, by go_num, by rw [HEX.out], S_4.out.drewN _, R9_4.out.drewN _⟩
                      case measure => simp [intOf]; omega
                · have HEX : Hid (lastN cb xo xn (q.H.take (k + 1)) = nm) := Lib.hid (by rw [HST.out]; unfold lastF; rw [if_neg (fun h => ho h.2)])
                  have e3 : (((hh.o : Int) == (xo : Int)) : Bool) = false := beq_eq_false_iff_ne.2 (by omega)
                  clear HST
                  go_wp2_with fail
                  go_quiet (fail)
                  clear x0 x1 x2 x3
                  go_wp2
                  go_roundw
                  case rel => exact ⟨k + 1, by omega, by go_num, by rw [HEX.out], S_4.out.drewN _, R9_4.out.drewN _⟩
                  case measure => simp [intOf]; omega
              · have hk2 : decide ((k : Int) < (q.H.length : Int)) = false := by simp; omega
                have hkk : q.H.take k = q.H := List.take_of_length_le (by omega)
                rw [hkk, HNM.out]
                clear hkk
                have HAPT := Lib.hid (apart_act S_4.out.inv ⟨xt, xo, xn, xk⟩)
                obtain ⟨nm, hnm⟩ : ∃ z, nameOf q ⟨xt, xo, xn, xk⟩ = z := ⟨_, rfl⟩
                rw [hnm] at HAPT ⊢
                clear hnm
                go_wp2_with fail
                with_reducible refine (sw_goods S_4.out).mono ?_
                rintro e w5 ⟨v5, rfl, hr, hs, hf⟩
                have S_5 := Lib.hid hs
                have R11_5 := Lib.hid hr
                clear hs hf hr
                obtain ⟨⟨x0, x1, x2, x3⟩, hbl⟩ := HCJ.out
                rw [← S_5.out.bel.cell (p := ⟨b0, off + j * 4, none⟩) hbl] at x0
                rw [← S_5.out.bel.cell (p := ⟨b0, off + j * 4 + 1, none⟩) hbl] at x1
                rw [← S_5.out.bel.cell (p := ⟨b0, off + j * 4 + 2, none⟩) hbl] at x2
                rw [← S_5.out.bel.cell (p := ⟨b0, off + j * 4 + 3, none⟩) hbl] at x3
                clear hbl
                go_wp2_with fail
                with_reducible refine (sw_act S_5.out xt xo xn xk HXO.out.2.1 HXO.out.2.2.1 HXO.out.2.2.2 (by have := HH.out; omega)).mono ?_
                rintro e w6 ⟨rfl, hs, hf⟩
                have S_6 := Lib.hid hs
                have R11_6 := Lib.hid (R11_5.out.frm hf)
                clear hs hf
                clear x0 x1 x2 x3 hk2
                have HH2 : Hid ((actS q ⟨xt, xo, xn, xk⟩).H.length ≤ j + 1) := Lib.hid (by have := (actS_len q ⟨xt, xo, xn, xk⟩).1; have := HH.out; omega)
                have HK2 : Hid ((actS q ⟨xt, xo, xn, xk⟩).K.length = n) := Lib.hid ((act_len ⟨xt, xo, xn, xk⟩).trans HKL.out)
                obtain ⟨q2, hq2⟩ : ∃ q2, actS q ⟨xt, xo, xn, xk⟩ = q2 := ⟨_, rfl⟩
                rw [hq2] at S_6 HH2 HK2 HAPT
                clear hq2
                obtain ⟨va, hva⟩ : ∃ v, actV q ⟨xt, xo, xn, xk⟩ = v := ⟨_, rfl⟩
                rw [hva] at HAPT ⊢
                clear hva
                go_wp2_with fail
                with_reducible refine (sw_goods S_6.out).mono ?_
                rintro e w7 ⟨v7, rfl, hr, hs, hf⟩
                have S_7 := Lib.hid hs
                have R11_7 := Lib.hid (R11_6.out.below hf)
                have R13_7 := Lib.hid hr
                clear hs hf hr
                obtain ⟨A11, c11, rfl, -, -⟩ := R11_7.out.gin
                obtain ⟨A13, c13, rfl, -, -⟩ := R13_7.out.gin
                rw [HKL.out] at R11_7
                rw [HK2.out] at R13_7
                rw [HKL.out, HK2.out]
                go_wp2_with fail
                go_loopw [14] (fun i wr => ApI w q q2 b (.slice A11 n c11) (.slice A13 n c13) i wr) (fun i _ => n - (intOf i).toNat)
                case atStart => exact ⟨0, by omega, rfl, S_7.out, R11_7.out, R13_7.out⟩
                case round =>
                  clear S_7 R11_7 R13_7
                  obtain ⟨i, hi, rfl, hS, hR11, hR13⟩ := hrel
                  have S_8 := Lib.hid hS
                  have R11_8 := Lib.hid hR11
                  have R13_8 := Lib.hid hR13
                  clear hS hR11 hR13
                  have hin : i ≤ n := by have := HKL.out; omega
                  by_cases hi1 : i < n
                  · have hi2 : (i : Int) < (n : Int) := by omega
                    have hq1 : i < q.K.length := by rw [HKL.out]; exact hi1
                    have hq2 : i < q2.K.length := by rw [HK2.out]; exact hi1
                    obtain ⟨g11, o11, hA11, -, y0, y1, y2⟩ := R11_8.out.at i hq1
                    obtain ⟨g13, o13, hA13, -, z0, z1, z2⟩ := R13_8.out.at i hq2
                    subst hA11 hA13
                    obtain ⟨hna, hor⟩ := HAPT.out i hq1 hq2
                    obtain ⟨y, hy⟩ : ∃ y, q.K[i] = y := ⟨_, rfl⟩
                    obtain ⟨z, hz⟩ : ∃ z, q2.K[i] = z := ⟨_, rfl⟩
                    rw [hy] at y0 y1 y2 hna hor
                    rw [hz] at z0 z1 z2 hna hor
                    clear hy hz
                    have hgd := guard46
                    by_cases heq : z = y
                    · subst heq
                      have hne : ∀ W, _ := fun W => run_neq46 z z W
                      simp only [decide_true, Bool.not_true] at hne
                      clear hna hor
                      go_wp2_with fail
                      go_quiet (fail)
                      clear hne hgd
                      go_wp2
                      go_roundw
                      case rel => exact ⟨i + 1, by have := HKL.out; omega, by go_num, S_8.out.drewN _, R11_8.out.drewN _, R13_8.out.drewN _⟩
                      case measure => simp [intOf]; omega
                    · obtain ⟨hva, hnm⟩ : va = true ∧ y.n = nm := hor.resolve_left heq
                      have hne : ∀ W, _ := fun W => run_neq46 z y W
                      rw [decide_eq_false heq] at hne
                      simp only [Bool.not_false] at hne
                      clear hor heq
                      obtain ⟨zn, zm, zh⟩ := z
                      obtain ⟨yn, ym, yh⟩ := y
                      dsimp only at y0 y1 y2 z0 z1 z2 hna hnm hne
                      subst hna hnm hva
                      simp only [verd, if_true]
                      go_wp2_with fail
                      go_quiet (fail)
                      clear hne hgd
                      go_wp2
                      go_roundw
                      case rel => exact ⟨i + 1, by have := HKL.out; omega, by go_num, S_8.out.drewN _, R11_8.out.drewN _, R13_8.out.drewN _⟩
                      case measure => simp [intOf]; omega
                  · have hi2 : decide ((i : Int) < (n : Int)) = false := by simp; omega
                    go_wp2
                    go_roundw
                    case rel => exact ⟨j + 1, q2, by omega, by omega, by go_num, S_8.out, HH2.out, HK2.out⟩
                    case measure => simp [intOf]; omega
          · have e2 : decide ((j : Int) < 100) = false := by simp; omega
            go_wp2_with fail
            with_reducible refine (HK.out _).mono ?_
            rintro e w3 ⟨rfl, hb⟩
            have S_3 := Lib.hid (S_2.out.below hb)
            clear hb
            go_wp2
            go_ret
            exact ⟨rfl, S_3.out.bel⟩
        · have hnl : decide ((j : Int) < (m : Int)) = false := by simp; omega
          go_wp2_with fail
          with_reducible refine (HK.out _).mono ?_
          rintro e w3 ⟨rfl, hb⟩
          have S_3 := Lib.hid (S_2.out.below hb)
          clear hb
          go_wp2
          go_ret
          exact ⟨rfl, S_3.out.bel⟩

end Go.Proofs.Ytlgdjmmhdfpfeaa
