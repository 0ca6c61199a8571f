/-
  The walk of PurseSum.
-/
import Derived.Test.YtlgdjmmhdfpfeaaLawB
namespace Go.Proofs.Ytlgdjmmhdfpfeaa
open Go.Proofs Go.RowKit
set_option maxRecDepth 100000
set_option linter.unusedVariables false
set_option linter.unusedSimpArgs false

def SuF (l : List Kd) (v7 v8 : Value) : Prop := ∃ i : Nat, i ≤ l.length ∧ v8 = .int .i64 (i : Int) ∧ v7 = .int .i64 (sumM (l.take i))
def SuR (n : Nat) (F : Int) (w : World) (a : List Ac) (b : SB) (i : Value) (wr : World) : Prop := ∃ (j : Nat) (q : Ss), j ≤ a.length ∧ j ≤ 120 ∧ i = .int .i64 (j : Int) ∧ SW w wr b q ∧ q.H.length ≤ j ∧ q.K.length = n ∧ sumM q.K + tot q.H 2 = F
def SuI (w : World) (q : Ss) (b : SB) (v13 v14 v15 i : Value) (wr : World) : Prop := ∃ k : Nat, k ≤ q.K.length ∧ i = .int .i64 (k : Int) ∧ v15 = .int .i64 (tot q.H 2 + sumM (q.K.take k)) ∧ SW w wr b q ∧ RG wr b v13 q.K ∧ RH wr b v14 q.H
def SuJ (w : World) (q : Ss) (b : SB) (v13 v14 : Value) (y : Kd) (g o k : Nat) (v17 v18 : Value) (wr : World) : Prop := ∃ i : Nat, i ≤ q.H.length ∧ v18 = .int .i64 (i : Int) ∧ v17 = .int .i64 (held (q.H.take i) y.n 1) ∧ SW w wr b q ∧ RG wr b v13 q.K ∧ RH wr b v14 q.H ∧
  wr.cell? ⟨g, o + k * 3, none⟩ = some (encStr y.n) ∧ wr.cell? ⟨g, o + k * 3 + 1, none⟩ = some (.int .i64 y.m) ∧ wr.cell? ⟨g, o + k * 3 + 2, none⟩ = some (.int .i64 y.h)

set_option maxHeartbeats 16000000 in
theorem purseSum_walk (A : Option Addr) (n c : Nat) (l : List Kd) (B : Option Addr) (m d : Nat) (a : List Ac)  (w : World) (hG : Gin w A n l) (hn : n ≤ maxLen) (hL : GoodsOk l) (hA : Ain w B m a) (hm : m ≤ maxLen) (hAO : ActsOk a) 
    (KN : ∀ W, Calls Try.prog 10 #[] W fun e w' => e = .returned (.bool true) ∧ Below W.heap.size W w') :
    Calls Try.prog 4 #[.slice A n c, .slice B m d] w fun e w' => e = .returned (.bool true) ∧ Below w.heap.size w w' := by
  have HG := Lib.hid hG
  have HA := Lib.hid hA
  have HL := Lib.hid hL
  have HAO := Lib.hid hAO
  have HN := Lib.hid hG.1
  have HM := Lib.hid hA.1
  have HK := Lib.hid KN
  have HC := Lib.hid (long_any A n c l B m d a w hG hA hm hn)
  have hmm : (m : Int) ≤ 9223372036854775807 := by unfold maxLen at hm; omega
  clear hG hA hL hAO KN hm
  go_enter Try.func4, Try.ntmps4
  go_wp2_with fail
  with_reducible refine HC.out.mono ?_
  rintro e w1 ⟨rfl, rfl | ⟨rfl, hs⟩⟩
  · go_wp2_with fail
    with_reducible refine (HK.out _).mono ?_
    rintro e w2 ⟨rfl, hb⟩
    have HB := Lib.hid hb
    clear hb
    go_wp2
    go_ret
    exact ⟨rfl, HB.out⟩
  · have HS := Lib.hid hs
    have hn2 : n ≤ 200 := by have := hs.1; have := HN.out; omega
    clear hs HC hn
    go_wp2_with fail
    with_reducible refine (sw_new (Below.refl _ _) A n c l HG.out (by omega) HS.out.names).mono ?_
    rintro e w1 ⟨hb, ⟨h1, rfl⟩ | ⟨K, b, h1, rfl, hs, -⟩⟩
    · have HB := Lib.hid hb
      clear hb h1
      go_wp2_with fail
      with_reducible refine (HK.out _).mono ?_
      rintro e w2 ⟨rfl, hb⟩
      have HB2 := Lib.hid (HB.out.trans (hb.mono HB.out.size))
      clear hb
      go_wp2
      go_ret
      exact ⟨rfl, HB2.out⟩
    · have S_1 := Lib.hid hs
      have HNO := Lib.hid h1
      have HNW := Lib.hid (newOf_some h1).2.2
      clear hb h1 hs
      have HKN : Hid (K.length = n) := Lib.hid (HNW.out.len.trans HN.out)
      have HMB := Lib.hid (new_bd HNO.out)
      have HFI : Hid (sumM K + tot ([] : List Hd) 2 = sumM l) := Lib.hid (by rw [sumM_new HNO.out]; simp [tot])
      have HLN : Hid (l.length ≤ 50) := Lib.hid (newOf_some HNO.out).1
      go_upto_block 0 with (fail)
      go_cut [7, 8] (fun s7 s8 W => s7 = .int .i64 (sumM l) ∧ W = w1)
      case first =>
        go_wp2_with fail
        go_loop [7, 8] (fun v7 v8 => SuF l v7 v8) (fun _ i => n - (intOf i).toNat)
        case atStart => exact ⟨0, by omega, rfl, by simp [sumM]⟩
        case round =>
          obtain ⟨i, hi, rfl, rfl⟩ := hrel
          have hin : i ≤ n := by have := HN.out; omega
          obtain ⟨b1, b2⟩ := sumM_tbd HMB.out i
          have hl50 := HLN.out
          by_cases hlt : i < n
          · have hlt2 : (i : Int) < (n : Int) := by omega
            have hlt3 : i < l.length := by have := HN.out; omega
            obtain ⟨b0, off, rfl, hbl, hcell⟩ := HG.out.2 (by omega)
            obtain ⟨-, x1, -⟩ := hcell i hlt3
            rw [← S_1.out.bel.cell (p := ⟨b0, off + i * 3 + 1, none⟩) hbl] at x1
            have HST := Lib.hid (sumM_take hlt3)
            have hmb := HMB.out l[i] (List.getElem_mem hlt3)
            obtain ⟨z, hz⟩ : ∃ z, l[i] = z := ⟨_, rfl⟩
            rw [hz] at x1 HST hmb
            clear hcell hz hbl
            obtain ⟨hm1, hm2⟩ := hmb
            generalize sumM (l.take i) = sv at *
            go_wp2
            go_round
            case rel => exact ⟨i + 1, by omega, by go_num, by rw [HST.out]⟩
            case measure => simp [intOf]; omega
          · have hnl : decide ((i : Int) < (n : Int)) = false := by simp; omega
            have hii : l.take i = l := List.take_of_length_le (by have := HN.out; omega)
            rw [hii]
            clear hii b1 b2
            generalize sumM l = sv at *
            go_wp2
            go_meet
            exact ⟨rfl, rfl⟩
      obtain ⟨rfl, rfl⟩ := hcut
      obtain ⟨fv, hfv⟩ : ∃ v, sumM l = v := ⟨_, rfl⟩
      rw [hfv] at HFI ⊢
      clear hfv HMB
      go_wp2_with fail
      go_loopw [9] (fun i wr => SuR n fv w a b i wr) (fun i _ => 121 - (intOf i).toNat)
      case atStart => exact ⟨0, ⟨K, []⟩, by omega, by omega, rfl, S_1.out, Nat.le_refl _, HKN.out, HFI.out⟩
      case round =>
        clear S_1
        obtain ⟨j, q, hj, hj2, rfl, hS, hH, hKL, hF⟩ := hrel
        have S_2 := Lib.hid hS
        have HH := Lib.hid hH
        have HKL := Lib.hid hKL
        have HF := Lib.hid hF
        clear hS hH hKL hF
        have hjm : j ≤ m := by have := HM.out; omega
        by_cases hlt : j < m
        · have hlt2 : (j : Int) < (m : Int) := by omega
          by_cases hq3 : j < 120
          · have e2 : decide ((j : Int) < 120) = true := by simp; omega
            have hlt3 : j < a.length := by have := HM.out; omega
            obtain ⟨b0, off, rfl, hbl, hcell⟩ := HA.out.2 (by omega)
            obtain ⟨xx, hxx⟩ : ∃ q, a[j] = q := ⟨_, rfl⟩
            have hcj := hcell j hlt3
            rw [hxx] at hcj
            have HXO := Lib.hid (HAO.out a[j] (List.getElem_mem hlt3))
            rw [hxx] at HXO
            have HCJ := Lib.hid (And.intro hcj hbl)
            clear hcell hxx hcj hbl
            obtain ⟨xt, xo, xn, xk⟩ := xx
            dsimp only at HXO HCJ
            go_wp2_with fail
            with_reducible refine (sw_goods S_2.out).mono ?_
            rintro e w3 ⟨v3, rfl, hr, hs, hf⟩
            have S_3 := Lib.hid hs
            have R10_3 := Lib.hid hr
            clear hs hf hr
            go_wp2_with fail
            with_reducible refine (sw_holds S_3.out (by have := HH.out; omega)).mono ?_
            rintro e w4 ⟨v4, rfl, hr, hs, hf⟩
            have S_4 := Lib.hid hs
            have R10_4 := Lib.hid (R10_3.out.below hf)
            have R11_4 := Lib.hid hr
            clear hs hf hr
            obtain ⟨⟨x0, x1, x2, x3⟩, hbl⟩ := HCJ.out
            rw [← S_4.out.bel.cell (p := ⟨b0, off + j * 4, none⟩) hbl] at x0
            rw [← S_4.out.bel.cell (p := ⟨b0, off + j * 4 + 1, none⟩) hbl] at x1
            rw [← S_4.out.bel.cell (p := ⟨b0, off + j * 4 + 2, none⟩) hbl] at x2
            rw [← S_4.out.bel.cell (p := ⟨b0, off + j * 4 + 3, none⟩) hbl] at x3
            clear hbl
            go_wp2_with fail
            with_reducible refine (sw_act S_4.out xt xo xn xk HXO.out.2.1 HXO.out.2.2.1 HXO.out.2.2.2 (by have := HH.out; omega)).mono ?_
            rintro e w5 ⟨rfl, hs, hf⟩
            have S_5 := Lib.hid hs
            have R10_5 := Lib.hid (R10_4.out.frm hf)
            have R11_5 := Lib.hid (R11_4.out.frm hf)
            clear hs hf
            clear x0 x1 x2 x3
            have HNO2 : Hid (actV q ⟨xt, xo, xn, xk⟩ = false → actS q ⟨xt, xo, xn, xk⟩ = q) := Lib.hid actS_no
            have HH2 : Hid ((actS q ⟨xt, xo, xn, xk⟩).H.length ≤ j + 1) := Lib.hid (by have := (actS_len q ⟨xt, xo, xn, xk⟩).1; have := HH.out; omega)
            have HK2 : Hid ((actS q ⟨xt, xo, xn, xk⟩).K.length = n) := Lib.hid ((act_len ⟨xt, xo, xn, xk⟩).trans HKL.out)
            have HF2 : Hid (sumM (actS q ⟨xt, xo, xn, xk⟩).K + tot (actS q ⟨xt, xo, xn, xk⟩).H 2 = fv) := Lib.hid ((keep_act S_4.out.inv ⟨xt, xo, xn, xk⟩).trans HF.out)
            obtain ⟨q2, hq2⟩ : ∃ q2, actS q ⟨xt, xo, xn, xk⟩ = q2 := ⟨_, rfl⟩
            rw [hq2] at S_5 HNO2 HH2 HK2 HF2
            clear hq2
            obtain ⟨va, hva⟩ : ∃ v, actV q ⟨xt, xo, xn, xk⟩ = v := ⟨_, rfl⟩
            rw [hva] at HNO2 ⊢
            clear hva
            go_wp2_with fail
            with_reducible refine (sw_goods S_5.out).mono ?_
            rintro e w6 ⟨v6, rfl, hr, hs, hf⟩
            have S_6 := Lib.hid hs
            have R10_6 := Lib.hid (R10_5.out.below hf)
            have R11_6 := Lib.hid (R11_5.out.below hf)
            have R13_6 := Lib.hid hr
            clear hs hf hr
            go_wp2_with fail
            with_reducible refine (sw_holds S_6.out (by have := HH2.out; omega)).mono ?_
            rintro e w7 ⟨v7, rfl, hr, hs, hf⟩
            have S_7 := Lib.hid hs
            have R10_7 := Lib.hid (R10_6.out.below hf)
            have R11_7 := Lib.hid (R11_6.out.below hf)
            have R13_7 := Lib.hid (R13_6.out.below hf)
            have R14_7 := Lib.hid hr
            clear hs hf hr
            skip
            cases va
            · have hqq := HNO2.out rfl
              have HQQ := Lib.hid hqq
              subst hqq
              simp only [verd, Bool.false_eq_true, if_false]
              go_wp2_with fail
              with_reducible refine (sw_sameG S_7.out R10_7.out R13_7.out (by rw [HK2.out]; omega)).mono ?_
              rintro e w8 ⟨rfl, hs, hf⟩
              have S_8 := Lib.hid hs
              have R11_8 := Lib.hid (R11_7.out.below hf)
              have R13_8 := Lib.hid (R13_7.out.below hf)
              have R14_8 := Lib.hid (R14_7.out.below hf)
              clear hs hf
              go_wp2_with fail
              with_reducible refine (sw_sameH S_8.out R11_8.out R14_8.out (by have := HH2.out; omega)).mono ?_
              rintro e w9 ⟨rfl, hs, hf⟩
              have S_9 := Lib.hid hs
              have R13_9 := Lib.hid (R13_8.out.below hf)
              have R14_9 := Lib.hid (R14_8.out.below hf)
              clear hs hf
              go_wp2_with fail
              with_reducible refine (sw_taken S_9.out (by have := HH2.out; omega)).mono ?_
              rintro e w10 ⟨rfl, hs, hf⟩
              have S_10 := Lib.hid hs
              have R13_10 := Lib.hid (R13_9.out.below hf)
              have R14_10 := Lib.hid (R14_9.out.below hf)
              clear hs hf
              obtain ⟨A13, c13, rfl, -, -⟩ := R13_10.out.gin
              obtain ⟨A14, c14, rfl, -, -⟩ := R14_10.out.hin
              rw [HK2.out] at R13_10 ⊢
              have hz3 : (q2.H.length : Int) ≤ 121 := by have := HH2.out; omega
              have hkz : (n : Int) ≤ 50 := by have := HLN.out; have := HN.out; omega
              go_wp2_with fail
              go_loopw [15, 16] (fun v15 i wr => SuI w q2 b (.slice A13 n c13) (.slice A14 q2.H.length c14) v15 i wr) (fun _ i _ => n - (intOf i).toNat)
              case atStart => exact ⟨0, by omega, rfl, by simp [sumM], S_10.out, R13_10.out, R14_10.out⟩
              case round =>
                clear S_10 R13_10 R14_10
                obtain ⟨k, hk, rfl, rfl, hS, hR13, hR14⟩ := hrel
                have S_20 := Lib.hid hS
                have R13_20 := Lib.hid hR13
                have R14_20 := Lib.hid hR14
                clear hS hR13 hR14
                have hkn : k ≤ n := by have := HK2.out; omega
                obtain ⟨s1, s2⟩ := sumM_tbd S_20.out.inv.mb k
                obtain ⟨t1, t2⟩ := tot_bd S_20.out.inv 2
                rw [HK2.out] at s2
                by_cases hk1 : k < n
                · have hk2 : (k : Int) < (n : Int) := by omega
                  have hkq : k < q2.K.length := by rw [HK2.out]; exact hk1
                  obtain ⟨g13, o13, rfl, -, y0, y1, y2⟩ := R13_20.out.at k hkq
                  have HST := Lib.hid (sumM_take hkq)
                  have HYK := Lib.hid (List.getElem_mem hkq)
                  obtain ⟨y, hy⟩ : ∃ y, q2.K[k] = y := ⟨_, rfl⟩
                  rw [hy] at y0 y1 y2 HST HYK
                  clear hy
                  have HYF := Lib.hid (S_20.out.inv.kf y HYK.out)
                  have HYB := Lib.hid (S_20.out.inv.kbs HYK.out)
                  have HTK := Lib.hid (fun i => held_take_le S_20.out.inv.pos y.n 1 i)
                  obtain ⟨sv, hsv⟩ : ∃ s, tot q2.H 2 + sumM (q2.K.take k) = s := ⟨_, rfl⟩
                  have HSV : Hid (sv + y.m = tot q2.H 2 + sumM (q2.K.take (k + 1))) := Lib.hid (by rw [HST.out, ← hsv]; omega)
                  have hsb : 0 ≤ sv ∧ sv ≤ 300000000000 := by omega
                  rw [hsv]
                  obtain ⟨hsb1, hsb2⟩ := hsb
                  clear hsv s1 s2 t1 t2 HST
                  have HC := Lib.hid (And.intro y0 (And.intro y1 y2))
                  clear y0 y1 y2
                  go_wp2_with fail
                  go_loopw [17, 18] (fun v17 v18 wr => SuJ w q2 b (.slice (some ⟨g13, o13, none⟩) n c13) (.slice A14 q2.H.length c14) y g13 o13 k v17 v18 wr) (fun _ i _ => q2.H.length - (intOf i).toNat)
                  case atStart => exact ⟨0, by omega, rfl, by simp [held], S_20.out, R13_20.out, R14_20.out, HC.out⟩
                  case round =>
                    clear S_20 R13_20 R14_20 HC
                    obtain ⟨i, hi, rfl, rfl, hS, hR13, hR14, hC⟩ := hrel
                    have S_22 := Lib.hid hS
                    have R13_22 := Lib.hid hR13
                    have R14_22 := Lib.hid hR14
                    have HC := Lib.hid hC
                    clear hS hR13 hR14 hC
                    have hti := HTK.out i
                    have hyb := HYB.out
                    have hyf := HYF.out.2.2.1
                    obtain ⟨ht1, ht2⟩ := hti
                    obtain ⟨hy1, hy2, hy3⟩ := hyb
                    by_cases hi1 : i < q2.H.length
                    · have hi2 : (i : Int) < (q2.H.length : Int) := by omega
                      obtain ⟨y0, y1, y2⟩ := HC.out
                      obtain ⟨g14, o14, rfl, -, u0, u1, u2, u3⟩ := R14_22.out.at i hi1
                      obtain ⟨hh, hhh⟩ : ∃ z, q2.H[i] = z := ⟨_, rfl⟩
                      rw [hhh] at u0 u1 u2 u3
                      have HST : Hid (held (q2.H.take (i + 1)) y.n 1 = held (q2.H.take i) y.n 1 + if hh.n == y.n && hh.t == 1 then hh.k else 0) := Lib.hid (by rw [List.take_succ_eq_append_getElem hi1, held_snoc, hhh])
                      have HTS := Lib.hid (HTK.out (i + 1))
                      clear hhh
                      have hbd : held (q2.H.take i) y.n 1 ≤ 1000000000 := by omega
                      have HHF := Lib.hid hyf
                      clear hyf ht2
                      by_cases hnn : hh.n = y.n
                      · by_cases htt : hh.t = 1
                        · have hst2 : held (q2.H.take (i + 1)) y.n 1 = held (q2.H.take i) y.n 1 + hh.k := by rw [HST.out, if_pos (by simp [hnn, htt])]
                          have hb1 : 0 ≤ held (q2.H.take i) y.n 1 + hh.k ∧ held (q2.H.take i) y.n 1 + hh.k ≤ 1000000000 := by have := HTS.out; have := HYF.out.2.2.1; omega
                          have HST2 := Lib.hid hst2
                          rw [hnn] at u1
                          rw [htt] at u3
                          clear hst2 HST hnn htt
                          obtain ⟨hb2, hb3⟩ := hb1
                          generalize held (q2.H.take i) y.n 1 = hv at *
                          go_wp2_with fail
                          go_quiet (fail)
                          go_wp2
                          go_roundw
                          case rel => exact ⟨i + 1, by omega, by go_num, by rw [HST2.out], S_22.out.drewN _, R13_22.out.drewN _, R14_22.out.drewN _, HC.out⟩
                          case measure => simp [intOf]; omega
                        · have hst2 : held (q2.H.take (i + 1)) y.n 1 = held (q2.H.take i) y.n 1 := by rw [HST.out, if_neg (by simp [htt])]; omega
                          have HST2 := Lib.hid hst2
                          have e5 : (((hh.t : Int) == 1) : Bool) = false := beq_eq_false_iff_ne.2 (by omega)
                          rw [hnn] at u1
                          clear hst2 HST hnn htt
                          go_wp2_with fail
                          go_quiet (fail)
                          go_wp2
                          go_roundw
                          case rel => exact ⟨i + 1, by omega, by go_num, by rw [HST2.out], S_22.out.drewN _, R13_22.out.drewN _, R14_22.out.drewN _, HC.out⟩
                          case measure => simp [intOf]; omega
                      · have hst2 : held (q2.H.take (i + 1)) y.n 1 = held (q2.H.take i) y.n 1 := by rw [HST.out, if_neg (by simp [hnn])]; omega
                        have HST2 := Lib.hid hst2
                        have e6 : (hh.n == y.n) = false := by simpa using hnn
                        have e7 : decide (hh.n = y.n) = false := by simpa using hnn
                        clear hst2 HST
                        go_wp2_with fail
                        go_quiet (fail)
                        go_wp2
                        go_roundw
                        case rel => exact ⟨i + 1, by omega, by go_num, by rw [HST2.out], S_22.out.drewN _, R13_22.out.drewN _, R14_22.out.drewN _, HC.out⟩
                        case measure => simp [intOf]; omega
                    · have hi2 : decide ((i : Int) < (q2.H.length : Int)) = false := by simp; omega
                      have hii : i = q2.H.length := by omega
                      rw [show q2.H.take i = q2.H from by rw [hii, List.take_length], ← hyf]
                      obtain ⟨y0, y1, y2⟩ := HC.out
                      clear hii hyf ht1 ht2
                      have e0 : decide (y.h < 0) = false := by simp; omega
                      have e1 : decide (y.m < y.h) = false := by simp; omega
                      go_wp2_with fail
                      go_quiet (fail)
                      go_wp2
                      go_roundw
                      case rel => exact ⟨k + 1, by omega, by go_num, by rw [← HSV.out], S_22.out.drewN _, R13_22.out.drewN _, R14_22.out.drewN _⟩
                      case measure => simp [intOf]; omega
                · have hk2 : decide ((k : Int) < (n : Int)) = false := by simp; omega
                  have hs3 : tot q2.H 2 + sumM (q2.K.take k) = fv := by rw [List.take_of_length_le (by rw [HK2.out]; omega), ← HF2.out]; omega
                  rw [hs3]
                  clear hs3 s1 s2 t1 t2
                  go_wp2
                  go_roundw
                  case rel => exact ⟨j + 1, q2, by omega, by omega, by go_num, S_20.out, HH2.out, HK2.out, HF2.out⟩
                  case measure => simp [intOf]; omega
            · simp only [verd, if_true]
              go_wp2_with fail
              with_reducible refine (sw_taken S_7.out (by have := HH2.out; omega)).mono ?_
              rintro e w10 ⟨rfl, hs, hf⟩
              have S_10 := Lib.hid hs
              have R13_10 := Lib.hid (R13_7.out.below hf)
              have R14_10 := Lib.hid (R14_7.out.below hf)
              clear hs hf
              obtain ⟨A13, c13, rfl, -, -⟩ := R13_10.out.gin
              obtain ⟨A14, c14, rfl, -, -⟩ := R14_10.out.hin
              rw [HK2.out] at R13_10 ⊢
              have hz3 : (q2.H.length : Int) ≤ 121 := by have := HH2.out; omega
              have hkz : (n : Int) ≤ 50 := by have := HLN.out; have := HN.out; omega
              go_wp2_with fail
              go_loopw [15, 16] (fun v15 i wr => SuI w q2 b (.slice A13 n c13) (.slice A14 q2.H.length c14) v15 i wr) (fun _ i _ => n - (intOf i).toNat)
              case atStart => exact ⟨0, by omega, rfl, by simp [sumM], S_10.out, R13_10.out, R14_10.out⟩
              case round =>
                clear S_10 R13_10 R14_10
                obtain ⟨k, hk, rfl, rfl, hS, hR13, hR14⟩ := hrel
                have S_20 := Lib.hid hS
                have R13_20 := Lib.hid hR13
                have R14_20 := Lib.hid hR14
                clear hS hR13 hR14
                have hkn : k ≤ n := by have := HK2.out; omega
                obtain ⟨s1, s2⟩ := sumM_tbd S_20.out.inv.mb k
                obtain ⟨t1, t2⟩ := tot_bd S_20.out.inv 2
                rw [HK2.out] at s2
                by_cases hk1 : k < n
                · have hk2 : (k : Int) < (n : Int) := by omega
                  have hkq : k < q2.K.length := by rw [HK2.out]; exact hk1
                  obtain ⟨g13, o13, rfl, -, y0, y1, y2⟩ := R13_20.out.at k hkq
                  have HST := Lib.hid (sumM_take hkq)
                  have HYK := Lib.hid (List.getElem_mem hkq)
                  obtain ⟨y, hy⟩ : ∃ y, q2.K[k] = y := ⟨_, rfl⟩
                  rw [hy] at y0 y1 y2 HST HYK
                  clear hy
                  have HYF := Lib.hid (S_20.out.inv.kf y HYK.out)
                  have HYB := Lib.hid (S_20.out.inv.kbs HYK.out)
                  have HTK := Lib.hid (fun i => held_take_le S_20.out.inv.pos y.n 1 i)
                  obtain ⟨sv, hsv⟩ : ∃ s, tot q2.H 2 + sumM (q2.K.take k) = s := ⟨_, rfl⟩
                  have HSV : Hid (sv + y.m = tot q2.H 2 + sumM (q2.K.take (k + 1))) := Lib.hid (by rw [HST.out, ← hsv]; omega)
                  have hsb : 0 ≤ sv ∧ sv ≤ 300000000000 := by omega
                  rw [hsv]
                  obtain ⟨hsb1, hsb2⟩ := hsb
                  clear hsv s1 s2 t1 t2 HST
                  have HC := Lib.hid (And.intro y0 (And.intro y1 y2))
                  clear y0 y1 y2
                  go_wp2_with fail
                  go_loopw [17, 18] (fun v17 v18 wr => SuJ w q2 b (.slice (some ⟨g13, o13, none⟩) n c13) (.slice A14 q2.H.length c14) y g13 o13 k v17 v18 wr) (fun _ i _ => q2.H.length - (intOf i).toNat)
                  case atStart => exact ⟨0, by omega, rfl, by simp [held], S_20.out, R13_20.out, R14_20.out, HC.out⟩
                  case round =>
                    clear S_20 R13_20 R14_20 HC
                    obtain ⟨i, hi, rfl, rfl, hS, hR13, hR14, hC⟩ := hrel
                    have S_22 := Lib.hid hS
                    have R13_22 := Lib.hid hR13
                    have R14_22 := Lib.hid hR14
                    have HC := Lib.hid hC
                    clear hS hR13 hR14 hC
                    have hti := HTK.out i
                    have hyb := HYB.out
                    have hyf := HYF.out.2.2.1
                    obtain ⟨ht1, ht2⟩ := hti
                    obtain ⟨hy1, hy2, hy3⟩ := hyb
                    by_cases hi1 : i < q2.H.length
                    · have hi2 : (i : Int) < (q2.H.length : Int) := by omega
                      obtain ⟨y0, y1, y2⟩ := HC.out
                      obtain ⟨g14, o14, rfl, -, u0, u1, u2, u3⟩ := R14_22.out.at i hi1
                      obtain ⟨hh, hhh⟩ : ∃ z, q2.H[i] = z := ⟨_, rfl⟩
                      rw [hhh] at u0 u1 u2 u3
                      have HST : Hid (held (q2.H.take (i + 1)) y.n 1 = held (q2.H.take i) y.n 1 + if hh.n == y.n && hh.t == 1 then hh.k else 0) := Lib.hid (by rw [List.take_succ_eq_append_getElem hi1, held_snoc, hhh])
                      have HTS := Lib.hid (HTK.out (i + 1))
                      clear hhh
                      have hbd : held (q2.H.take i) y.n 1 ≤ 1000000000 := by omega
                      have HHF := Lib.hid hyf
                      clear hyf ht2
                      by_cases hnn : hh.n = y.n
                      · by_cases htt : hh.t = 1
                        · have hst2 : held (q2.H.take (i + 1)) y.n 1 = held (q2.H.take i) y.n 1 + hh.k := by rw [HST.out, if_pos (by simp [hnn, htt])]
                          have hb1 : 0 ≤ held (q2.H.take i) y.n 1 + hh.k ∧ held (q2.H.take i) y.n 1 + hh.k ≤ 1000000000 := by have := HTS.out; have := HYF.out.2.2.1; omega
                          have HST2 := Lib.hid hst2
                          rw [hnn] at u1
                          rw [htt] at u3
                          clear hst2 HST hnn htt
                          obtain ⟨hb2, hb3⟩ := hb1
                          generalize held (q2.H.take i) y.n 1 = hv at *
                          go_wp2_with fail
                          go_quiet (fail)
                          go_wp2
                          go_roundw
                          case rel => exact ⟨i + 1, by omega, by go_num, by rw [HST2.out], S_22.out.drewN _, R13_22.out.drewN _, R14_22.out.drewN _, HC.out⟩
                          case measure => simp [intOf]; omega
                        · have hst2 : held (q2.H.take (i + 1)) y.n 1 = held (q2.H.take i) y.n 1 := by rw [HST.out, if_neg (by simp [htt])]; omega
                          have HST2 := Lib.hid hst2
                          have e5 : (((hh.t : Int) == 1) : Bool) = false := beq_eq_false_iff_ne.2 (by omega)
                          rw [hnn] at u1
                          clear hst2 HST hnn htt
                          go_wp2_with fail
                          go_quiet (fail)
                          go_wp2
                          go_roundw
                          case rel => exact ⟨i + 1, by omega, by go_num, by rw [HST2.out], S_22.out.drewN _, R13_22.out.drewN _, R14_22.out.drewN _, HC.out⟩
                          case measure => simp [intOf]; omega
                      · have hst2 : held (q2.H.take (i + 1)) y.n 1 = held (q2.H.take i) y.n 1 := by rw [HST.out, if_neg (by simp [hnn])]; omega
                        have HST2 := Lib.hid hst2
                        have e6 : (hh.n == y.n) = false := by simpa using hnn
                        have e7 : decide (hh.n = y.n) = false := by simpa using hnn
                        clear hst2 HST
                        go_wp2_with fail
                        go_quiet (fail)
                        go_wp2
                        go_roundw
                        case rel => exact ⟨i + 1, by omega, by go_num, by rw [HST2.out], S_22.out.drewN _, R13_22.out.drewN _, R14_22.out.drewN _, HC.out⟩
                        case measure => simp [intOf]; omega
                    · have hi2 : decide ((i : Int) < (q2.H.length : Int)) = false := by simp; omega
                      have hii : i = q2.H.length := by omega
                      rw [show q2.H.take i = q2.H from by rw [hii, List.take_length], ← hyf]
                      obtain ⟨y0, y1, y2⟩ := HC.out
                      clear hii hyf ht1 ht2
                      have e0 : decide (y.h < 0) = false := by simp; omega
                      have e1 : decide (y.m < y.h) = false := by simp; omega
                      go_wp2_with fail
                      go_quiet (fail)
                      go_wp2
                      go_roundw
                      case rel => exact ⟨k + 1, by omega, by go_num, by rw [← HSV.out], S_22.out.drewN _, R13_22.out.drewN _, R14_22.out.drewN _⟩
                      case measure => simp [intOf]; omega
                · have hk2 : decide ((k : Int) < (n : Int)) = false := by simp; omega
                  have hs3 : tot q2.H 2 + sumM (q2.K.take k) = fv := by rw [List.take_of_length_le (by rw [HK2.out]; omega), ← HF2.out]; omega
                  rw [hs3]
                  clear hs3 s1 s2 t1 t2
                  go_wp2
                  go_roundw
                  case rel => exact ⟨j + 1, q2, by omega, by omega, by go_num, S_20.out, HH2.out, HK2.out, HF2.out⟩
                  case measure => simp [intOf]; omega
          · have e2 : decide ((j : Int) < 120) = false := by simp; omega
            go_wp2_with fail
            with_reducible refine (HK.out _).mono ?_
            rintro e w3 ⟨rfl, hb⟩
            have S_3 := Lib.hid (S_2.out.below hb)
            clear hb
            go_wp2
            go_ret
            exact ⟨rfl, S_3.out.bel⟩
        · have hnl : decide ((j : Int) < (m : Int)) = false := by simp; omega
          go_wp2_with fail
          with_reducible refine (HK.out _).mono ?_
          rintro e w3 ⟨rfl, hb⟩
          have S_3 := Lib.hid (S_2.out.below hb)
          clear hb
          go_wp2
          go_ret
          exact ⟨rfl, S_3.out.bel⟩

end Go.Proofs.Ytlgdjmmhdfpfeaa
