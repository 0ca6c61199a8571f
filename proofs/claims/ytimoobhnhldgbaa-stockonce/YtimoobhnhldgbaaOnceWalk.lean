/-
  The walk of StockOnce.
-/
import Derived.Test.YtimoobhnhldgbaaOnceP
import Derived.Test.YtimoobhnhldgbaaMostWalk
namespace Go.Proofs.Ytimoobhnhldgbaa
open Go.Proofs Go.RowKit
set_option maxRecDepth 100000
set_option linter.unusedVariables false
set_option linter.unusedSimpArgs false

def OcR (w : World) (a : List Ac) (b : SB) (i : Value) (wr : World) : Prop := ∃ (j : Nat) (q : Ss), j ≤ a.length ∧ j ≤ 60 ∧ i = .int .i64 (j : Int) ∧ SW w wr b q ∧ q.H.length ≤ j
def OcE (w : World) (b : SB) (wr : World) : Prop := ∃ q : Ss, SW w wr b q ∧ q.H.length ≤ 60

set_option maxHeartbeats 16000000 in
theorem stockOnce_walk (A : Option Addr) (n c : Nat) (l : List Gd) (B : Option Addr) (m d : Nat) (a : List Ac) (o : Nat) (x : List UInt8) (nn : Int) (w : World) (hG : Gin w A n l) (hn : n ≤ maxLen) (hL : GoodsOk l) (hA : Ain w B m a) (hm : m ≤ maxLen) (hAO : ActsOk a) (ho : o < 4294967296) (hx : x.length ≤ maxLen) (hnn : in64 nn)
    (KN : ∀ W, Calls Try.prog 10 #[] W fun e w' => e = .returned (.bool true) ∧ Below W.heap.size W w') :
    Calls Try.prog 5 #[.slice A n c, .slice B m d, .int .u32 (o : Int), encStr x, .int .i64 nn] w fun e w' => e = .returned (.bool true) ∧ Below w.heap.size w w' := by
  have HG := Lib.hid hG
  have HA := Lib.hid hA
  have HL := Lib.hid hL
  have HAO := Lib.hid hAO
  have HN := Lib.hid hG.1
  have HM := Lib.hid hA.1
  have HK := Lib.hid KN
  have HC := Lib.hid (long_any A n c l B m d a w hG hA hm hn)
  have hmm : (m : Int) ≤ 9223372036854775807 := by unfold maxLen at hm; omega
  clear hG hA hL hAO KN hm
  go_enter Try.func5, Try.ntmps5
  go_wp2_with fail
  with_reducible refine HC.out.mono ?_
  rintro e w1 ⟨rfl, rfl | ⟨rfl, hs⟩⟩
  · go_wp2_with fail
    with_reducible refine (HK.out _).mono ?_
    rintro e w2 ⟨rfl, hb⟩
    have HB := Lib.hid hb
    clear hb
    go_wp2
    go_ret
    exact ⟨rfl, HB.out⟩
  · have HS := Lib.hid hs
    have hn2 : n ≤ 200 := by have := hs.1; have := HN.out; omega
    clear hs HC hn
    obtain ⟨bz, hbz⟩ : ∃ bz, decide ((1000 : Int) < (x.length : Int)) = bz := ⟨_, rfl⟩
    cases bz
    rotate_left
    · go_wp2_with fail
      with_reducible refine (HK.out _).mono ?_
      rintro e w2 ⟨rfl, hb⟩
      have HB := Lib.hid hb
      clear hb
      go_wp2
      go_ret
      exact ⟨rfl, HB.out⟩
    go_wp2_with fail
    with_reducible refine (sw_new (Below.refl _ _) A n c l HG.out (by omega) HS.out.names).mono ?_
    rintro e w1 ⟨hb, ⟨h1, rfl⟩ | ⟨K, b, h1, rfl, hs, -⟩⟩
    · have HB := Lib.hid hb
      clear hb h1
      go_wp2_with fail
      with_reducible refine (HK.out _).mono ?_
      rintro e w2 ⟨rfl, hb⟩
      have HB2 := Lib.hid (HB.out.trans (hb.mono HB.out.size))
      clear hb
      go_wp2
      go_ret
      exact ⟨rfl, HB2.out⟩
    · have S_1 := Lib.hid hs
      have HNW := Lib.hid (newOf_some h1).2.2
      clear hb h1 hs
      go_wp2_with fail
      go_loopw [13] (fun i wr => OcR w a b i wr) (fun i _ => 61 - (intOf i).toNat)
      case atStart => exact ⟨0, ⟨K, []⟩, by omega, by omega, rfl, S_1.out, Nat.le_refl _⟩
      case round =>
        clear S_1
        obtain ⟨j, q, hj, hj2, rfl, hS, hH⟩ := hrel
        have S_2 := Lib.hid hS
        have HH := Lib.hid hH
        clear hS hH
        have hjm : j ≤ m := by have := HM.out; omega
        by_cases hlt : j < m
        · have hlt2 : (j : Int) < (m : Int) := by omega
          by_cases hq3 : j < 60
          · have e2 : decide ((j : Int) < 60) = true := by simp; omega
            have hlt3 : j < a.length := by have := HM.out; omega
            obtain ⟨b0, off, rfl, hbl, hcell⟩ := HA.out.2 (by omega)
            obtain ⟨x0, x1, x2, x3⟩ := hcell j hlt3
            obtain ⟨xx, hxx⟩ : ∃ z, a[j] = z := ⟨_, rfl⟩
            have HXO : Hid (in64 xx.t ∧ xx.o < 4294967296 ∧ xx.x.length ≤ maxLen ∧ in64 xx.n) := Lib.hid (by have := HAO.out a[j] (List.getElem_mem hlt3); rwa [hxx] at this)
            rw [hxx] at x0 x1 x2 x3
            clear hcell hxx
            obtain ⟨xt, xo, xn, xk⟩ := xx
            dsimp only at x0 x1 x2 x3 HXO
            have HX0 := Lib.hid x0
            have HX1 := Lib.hid x1
            have HX2 := Lib.hid x2
            have HX3 := Lib.hid x3
            clear x0 x1 x2 x3
            have x0 := HX0.out
            have x1 := HX1.out
            have x2 := HX2.out
            have x3 := HX3.out
            rw [← S_2.out.bel.cell (p := ⟨b0, off + j * 4, none⟩) hbl] at x0
            rw [← S_2.out.bel.cell (p := ⟨b0, off + j * 4 + 1, none⟩) hbl] at x1
            rw [← S_2.out.bel.cell (p := ⟨b0, off + j * 4 + 2, none⟩) hbl] at x2
            rw [← S_2.out.bel.cell (p := ⟨b0, off + j * 4 + 3, none⟩) hbl] at x3
            go_wp2_with fail
            with_reducible refine (sw_act S_2.out xt xo xn xk HXO.out.2.1 HXO.out.2.2.1 HXO.out.2.2.2 (by have := HH.out; omega)).mono ?_
            rintro e w3 ⟨rfl, hs, hf⟩
            have S_3 := Lib.hid hs
            clear hs hf
            clear x0 x1 x2 x3
            have HH5 := Lib.hid (actS_len q ⟨xt, xo, xn, xk⟩).1
            go_wp2
            go_roundw
            case rel => exact ⟨j + 1, actS q ⟨xt, xo, xn, xk⟩, by omega, by omega, by go_num, S_3.out, by have := HH5.out; have := HH.out; omega⟩
            case measure => simp [intOf]; omega
          · have e2 : decide ((j : Int) < 60) = false := by simp; omega
            skip
            have hcut : OcE w b wr := ⟨q, S_2.out, by have := HH.out; omega⟩
            clear S_2 HH
            obtain ⟨q, hS, hH⟩ := hcut
            have S_2 := Lib.hid hS
            have HH := Lib.hid hH
            clear hS hH
            go_wp2_with fail
            with_reducible refine (sw_free S_2.out o ho).mono ?_
            rintro e w3 ⟨rfl, hs, hf⟩
            have S_3 := Lib.hid hs
            clear hs hf
            have HE := Lib.hid (end_none S_2.out.inv o false)
            have HH2 : Hid ((endS q o false).H.length ≤ 60) := Lib.hid (Nat.le_trans (endS_len q o false).1 HH.out)
            obtain ⟨q2, hq2⟩ : ∃ z, endS q o false = z := ⟨_, rfl⟩
            rw [hq2] at S_3 HE HH2
            clear hq2
            have HK2 := Lib.hid S_3.out.inv.kz
            go_wp2_with fail
            with_reducible refine (sw_goods S_3.out).mono ?_
            rintro e w4 ⟨v4, rfl, hr, hs, hf⟩
            have S_4 := Lib.hid hs
            have R7_4 := Lib.hid hr
            clear hs hf hr
            go_wp2_with fail
            with_reducible refine (sw_holds S_4.out (by have := HH2.out; omega)).mono ?_
            rintro e w5 ⟨v5, rfl, hr, hs, hf⟩
            have S_5 := Lib.hid hs
            have R7_5 := Lib.hid (R7_4.out.below hf)
            have R8_5 := Lib.hid hr
            clear hs hf hr
            go_wp2_with fail
            with_reducible refine (sw_free S_5.out o ho).mono ?_
            rintro e w6 ⟨he, hs, hf⟩
            rw [endV_no HE.out] at he
            rw [endS_no HE.out] at hs
            subst he
            have S_6 := Lib.hid hs
            have R7_6 := Lib.hid (R7_5.out.frm hf)
            have R8_6 := Lib.hid (R8_5.out.frm hf)
            clear hs hf
            go_wp2_with fail
            with_reducible refine (sw_ship S_6.out o ho).mono ?_
            rintro e w7 ⟨he, hs, hf⟩
            rw [endV_no HE.out] at he
            rw [endS_no HE.out] at hs
            subst he
            have S_7 := Lib.hid hs
            have R7_7 := Lib.hid (R7_6.out.frm hf)
            have R8_7 := Lib.hid (R8_6.out.frm hf)
            clear hs hf
            go_wp2_with fail
            with_reducible refine (sw_hold S_7.out o x nn ho hx hnn (by have := HH2.out; omega)).mono ?_
            rintro e w8 ⟨he, hs, hf⟩
            obtain ⟨va, hv⟩ : ∃ z, holdV q2 o x nn = z := ⟨_, rfl⟩
            cases va
            · rw [hv] at he
              rw [holdS_no hv] at hs
              subst he
              have S_8 := Lib.hid hs
              have R7_8 := Lib.hid (R7_7.out.frm hf)
              have R8_8 := Lib.hid (R8_7.out.frm hf)
              clear hs hf
              clear hv
              go_wp2_with fail
              with_reducible refine (sw_goods S_8.out).mono ?_
              rintro e w9 ⟨v9, rfl, hr, hs, hf⟩
              have S_9 := Lib.hid hs
              have R7_9 := Lib.hid (R7_8.out.below hf)
              have R8_9 := Lib.hid (R8_8.out.below hf)
              have R9_9 := Lib.hid hr
              clear hs hf hr
              go_wp2_with fail
              with_reducible refine (sw_sameG S_9.out R9_9.out R7_9.out (by rw [goods_len]; have := HK2.out; omega)).mono ?_
              rintro e w10 ⟨rfl, hs, hf⟩
              have S_10 := Lib.hid hs
              have R7_10 := Lib.hid (R7_9.out.below hf)
              have R8_10 := Lib.hid (R8_9.out.below hf)
              have R9_10 := Lib.hid (R9_9.out.below hf)
              clear hs hf
              go_wp2_with fail
              with_reducible refine (sw_holds S_10.out (by have := HH2.out; omega)).mono ?_
              rintro e w11 ⟨v11, rfl, hr, hs, hf⟩
              have S_11 := Lib.hid hs
              have R7_11 := Lib.hid (R7_10.out.below hf)
              have R8_11 := Lib.hid (R8_10.out.below hf)
              have R9_11 := Lib.hid (R9_10.out.below hf)
              have R10_11 := Lib.hid hr
              clear hs hf hr
              go_wp2_with fail
              with_reducible refine (sw_sameH S_11.out R10_11.out R8_11.out (by have := HH2.out; omega)).mono ?_
              rintro e w12 ⟨rfl, hs, hf⟩
              have S_12 := Lib.hid hs
              have R7_12 := Lib.hid (R7_11.out.below hf)
              have R8_12 := Lib.hid (R8_11.out.below hf)
              have R9_12 := Lib.hid (R9_11.out.below hf)
              have R10_12 := Lib.hid (R10_11.out.below hf)
              clear hs hf
              go_wp2_with fail
              with_reducible refine (HK.out _).mono ?_
              rintro e w13 ⟨rfl, hb⟩
              have S_13 := Lib.hid (S_12.out.below hb)
              clear hb
              go_wp2
              go_ret
              exact ⟨rfl, S_13.out.bel⟩
            · have HO := Lib.hid (once_back S_7.out.inv hv)
              rw [hv] at he
              subst he
              have S_8 := Lib.hid hs
              have R7_8 := Lib.hid (R7_7.out.frm hf)
              have R8_8 := Lib.hid (R8_7.out.frm hf)
              clear hs hf
              clear hv
              obtain ⟨q3, hq3⟩ : ∃ z, holdS q2 o x nn = z := ⟨_, rfl⟩
              rw [hq3] at S_8 HO
              clear hq3
              have HH3 : Hid (q3.H.length ≤ 61) := Lib.hid (by rw [HO.out.2.2]; have := HH2.out; omega)
              obtain ⟨A8, c8, rfl, -, hc8⟩ := R8_8.out.hin
              have HC8 := Lib.hid hc8
              clear hc8
              have hz8 : (q2.H.length : Int) ≤ 60 := by have := HH2.out; omega
              go_wp2_with fail
              with_reducible refine (sw_hold S_8.out o x 1 ho hx (by unfold in64; omega) (by have := HH3.out; omega)).mono ?_
              rintro e w9 ⟨he, hs, hf⟩
              rw [hold_twice x 1 HO.out.2.1] at he
              rw [holdS_no (hold_twice x 1 HO.out.2.1)] at hs
              subst he
              have S_9 := Lib.hid hs
              have R7_9 := Lib.hid (R7_8.out.frm hf)
              have R8_9 := Lib.hid (R8_8.out.frm hf)
              clear hs hf
              go_wp2_with fail
              with_reducible refine (sw_holds S_9.out (by have := HH3.out; omega)).mono ?_
              rintro e w10 ⟨v10, rfl, hr, hs, hf⟩
              have S_10 := Lib.hid hs
              have R7_10 := Lib.hid (R7_9.out.below hf)
              have R8_10 := Lib.hid (R8_9.out.below hf)
              have R9_10 := Lib.hid hr
              clear hs hf hr
              obtain ⟨A9, c9, rfl, -, -⟩ := R9_10.out.hin
              rw [HO.out.2.2] at R9_10
              rw [HO.out.2.2]
              have e9 : (((q2.H.length + 1 : Nat) : Int)) = (q2.H.length : Int) + 1 := by omega
              go_wp2_with fail
              with_reducible refine (sw_free S_10.out o ho).mono ?_
              rintro e w11 ⟨he, hs, hf⟩
              rw [HO.out.2.1] at he
              rw [HO.out.1] at hs
              subst he
              have S_11 := Lib.hid hs
              have R7_11 := Lib.hid (R7_10.out.frm hf)
              have R8_11 := Lib.hid (R8_10.out.frm hf)
              clear hs hf
              go_wp2_with fail
              with_reducible refine (sw_goods S_11.out).mono ?_
              rintro e w12 ⟨v12, rfl, hr, hs, hf⟩
              have S_12 := Lib.hid hs
              have R7_12 := Lib.hid (R7_11.out.below hf)
              have R8_12 := Lib.hid (R8_11.out.below hf)
              have R10_12 := Lib.hid hr
              clear hs hf hr
              go_wp2_with fail
              with_reducible refine (sw_sameG S_12.out R10_12.out R7_12.out (by rw [goods_len]; have := HK2.out; omega)).mono ?_
              rintro e w13 ⟨rfl, hs, hf⟩
              have S_13 := Lib.hid hs
              have R7_13 := Lib.hid (R7_12.out.below hf)
              have R8_13 := Lib.hid (R8_12.out.below hf)
              have R10_13 := Lib.hid (R10_12.out.below hf)
              clear hs hf
              go_wp2_with fail
              with_reducible refine (sw_holds S_13.out (by have := HH2.out; omega)).mono ?_
              rintro e w14 ⟨v14, rfl, hr, hs, hf⟩
              have S_14 := Lib.hid hs
              have R7_14 := Lib.hid (R7_13.out.below hf)
              have R8_14 := Lib.hid (R8_13.out.below hf)
              have R10_14 := Lib.hid (R10_13.out.below hf)
              have R11_14 := Lib.hid hr
              clear hs hf hr
              go_wp2_with fail
              with_reducible refine (sw_sameH S_14.out R11_14.out R8_14.out (by have := HH2.out; omega)).mono ?_
              rintro e w15 ⟨rfl, hs, hf⟩
              have S_15 := Lib.hid hs
              have R7_15 := Lib.hid (R7_14.out.below hf)
              have R8_15 := Lib.hid (R8_14.out.below hf)
              have R10_15 := Lib.hid (R10_14.out.below hf)
              have R11_15 := Lib.hid (R11_14.out.below hf)
              clear hs hf
              go_wp2_with fail
              with_reducible refine (sw_free S_15.out o ho).mono ?_
              rintro e w16 ⟨he, hs, hf⟩
              rw [endV_no HE.out] at he
              rw [endS_no HE.out] at hs
              subst he
              have S_16 := Lib.hid hs
              clear hs hf
              go_wp2_with fail
              with_reducible refine (HK.out _).mono ?_
              rintro e w17 ⟨rfl, hb⟩
              have S_17 := Lib.hid (S_16.out.below hb)
              clear hb
              go_wp2
              go_ret
              exact ⟨rfl, S_17.out.bel⟩
        · have hnl : decide ((j : Int) < (m : Int)) = false := by simp; omega
          have hcut : OcE w b wr := ⟨q, S_2.out, by have := HH.out; omega⟩
          clear S_2 HH
          obtain ⟨q, hS, hH⟩ := hcut
          have S_2 := Lib.hid hS
          have HH := Lib.hid hH
          clear hS hH
          go_wp2_with fail
          with_reducible refine (sw_free S_2.out o ho).mono ?_
          rintro e w3 ⟨rfl, hs, hf⟩
          have S_3 := Lib.hid hs
          clear hs hf
          have HE := Lib.hid (end_none S_2.out.inv o false)
          have HH2 : Hid ((endS q o false).H.length ≤ 60) := Lib.hid (Nat.le_trans (endS_len q o false).1 HH.out)
          obtain ⟨q2, hq2⟩ : ∃ z, endS q o false = z := ⟨_, rfl⟩
          rw [hq2] at S_3 HE HH2
          clear hq2
          have HK2 := Lib.hid S_3.out.inv.kz
          go_wp2_with fail
          with_reducible refine (sw_goods S_3.out).mono ?_
          rintro e w4 ⟨v4, rfl, hr, hs, hf⟩
          have S_4 := Lib.hid hs
          have R7_4 := Lib.hid hr
          clear hs hf hr
          go_wp2_with fail
          with_reducible refine (sw_holds S_4.out (by have := HH2.out; omega)).mono ?_
          rintro e w5 ⟨v5, rfl, hr, hs, hf⟩
          have S_5 := Lib.hid hs
          have R7_5 := Lib.hid (R7_4.out.below hf)
          have R8_5 := Lib.hid hr
          clear hs hf hr
          go_wp2_with fail
          with_reducible refine (sw_free S_5.out o ho).mono ?_
          rintro e w6 ⟨he, hs, hf⟩
          rw [endV_no HE.out] at he
          rw [endS_no HE.out] at hs
          subst he
          have S_6 := Lib.hid hs
          have R7_6 := Lib.hid (R7_5.out.frm hf)
          have R8_6 := Lib.hid (R8_5.out.frm hf)
          clear hs hf
          go_wp2_with fail
          with_reducible refine (sw_ship S_6.out o ho).mono ?_
          rintro e w7 ⟨he, hs, hf⟩
          rw [endV_no HE.out] at he
          rw [endS_no HE.out] at hs
          subst he
          have S_7 := Lib.hid hs
          have R7_7 := Lib.hid (R7_6.out.frm hf)
          have R8_7 := Lib.hid (R8_6.out.frm hf)
          clear hs hf
          go_wp2_with fail
          with_reducible refine (sw_hold S_7.out o x nn ho hx hnn (by have := HH2.out; omega)).mono ?_
          rintro e w8 ⟨he, hs, hf⟩
          obtain ⟨va, hv⟩ : ∃ z, holdV q2 o x nn = z := ⟨_, rfl⟩
          cases va
          · rw [hv] at he
            rw [holdS_no hv] at hs
            subst he
            have S_8 := Lib.hid hs
            have R7_8 := Lib.hid (R7_7.out.frm hf)
            have R8_8 := Lib.hid (R8_7.out.frm hf)
            clear hs hf
            clear hv
            go_wp2_with fail
            with_reducible refine (sw_goods S_8.out).mono ?_
            rintro e w9 ⟨v9, rfl, hr, hs, hf⟩
            have S_9 := Lib.hid hs
            have R7_9 := Lib.hid (R7_8.out.below hf)
            have R8_9 := Lib.hid (R8_8.out.below hf)
            have R9_9 := Lib.hid hr
            clear hs hf hr
            go_wp2_with fail
            with_reducible refine (sw_sameG S_9.out R9_9.out R7_9.out (by rw [goods_len]; have := HK2.out; omega)).mono ?_
            rintro e w10 ⟨rfl, hs, hf⟩
            have S_10 := Lib.hid hs
            have R7_10 := Lib.hid (R7_9.out.below hf)
            have R8_10 := Lib.hid (R8_9.out.below hf)
            have R9_10 := Lib.hid (R9_9.out.below hf)
            clear hs hf
            go_wp2_with fail
            with_reducible refine (sw_holds S_10.out (by have := HH2.out; omega)).mono ?_
            rintro e w11 ⟨v11, rfl, hr, hs, hf⟩
            have S_11 := Lib.hid hs
            have R7_11 := Lib.hid (R7_10.out.below hf)
            have R8_11 := Lib.hid (R8_10.out.below hf)
            have R9_11 := Lib.hid (R9_10.out.below hf)
            have R10_11 := Lib.hid hr
            clear hs hf hr
            go_wp2_with fail
            with_reducible refine (sw_sameH S_11.out R10_11.out R8_11.out (by have := HH2.out; omega)).mono ?_
            rintro e w12 ⟨rfl, hs, hf⟩
            have S_12 := Lib.hid hs
            have R7_12 := Lib.hid (R7_11.out.below hf)
            have R8_12 := Lib.hid (R8_11.out.below hf)
            have R9_12 := Lib.hid (R9_11.out.below hf)
            have R10_12 := Lib.hid (R10_11.out.below hf)
            clear hs hf
            go_wp2_with fail
            with_reducible refine (HK.out _).mono ?_
            rintro e w13 ⟨rfl, hb⟩
            have S_13 := Lib.hid (S_12.out.below hb)
            clear hb
            go_wp2
            go_ret
            exact ⟨rfl, S_13.out.bel⟩
          · have HO := Lib.hid (once_back S_7.out.inv hv)
            rw [hv] at he
            subst he
            have S_8 := Lib.hid hs
            have R7_8 := Lib.hid (R7_7.out.frm hf)
            have R8_8 := Lib.hid (R8_7.out.frm hf)
            clear hs hf
            clear hv
            obtain ⟨q3, hq3⟩ : ∃ z, holdS q2 o x nn = z := ⟨_, rfl⟩
            rw [hq3] at S_8 HO
            clear hq3
            have HH3 : Hid (q3.H.length ≤ 61) := Lib.hid (by rw [HO.out.2.2]; have := HH2.out; omega)
            obtain ⟨A8, c8, rfl, -, hc8⟩ := R8_8.out.hin
            have HC8 := Lib.hid hc8
            clear hc8
            have hz8 : (q2.H.length : Int) ≤ 60 := by have := HH2.out; omega
            go_wp2_with fail
            with_reducible refine (sw_hold S_8.out o x 1 ho hx (by unfold in64; omega) (by have := HH3.out; omega)).mono ?_
            rintro e w9 ⟨he, hs, hf⟩
            rw [hold_twice x 1 HO.out.2.1] at he
            rw [holdS_no (hold_twice x 1 HO.out.2.1)] at hs
            subst he
            have S_9 := Lib.hid hs
            have R7_9 := Lib.hid (R7_8.out.frm hf)
            have R8_9 := Lib.hid (R8_8.out.frm hf)
            clear hs hf
            go_wp2_with fail
            with_reducible refine (sw_holds S_9.out (by have := HH3.out; omega)).mono ?_
            rintro e w10 ⟨v10, rfl, hr, hs, hf⟩
            have S_10 := Lib.hid hs
            have R7_10 := Lib.hid (R7_9.out.below hf)
            have R8_10 := Lib.hid (R8_9.out.below hf)
            have R9_10 := Lib.hid hr
            clear hs hf hr
            obtain ⟨A9, c9, rfl, -, -⟩ := R9_10.out.hin
            rw [HO.out.2.2] at R9_10
            rw [HO.out.2.2]
            have e9 : (((q2.H.length + 1 : Nat) : Int)) = (q2.H.length : Int) + 1 := by omega
            go_wp2_with fail
            with_reducible refine (sw_free S_10.out o ho).mono ?_
            rintro e w11 ⟨he, hs, hf⟩
            rw [HO.out.2.1] at he
            rw [HO.out.1] at hs
            subst he
            have S_11 := Lib.hid hs
            have R7_11 := Lib.hid (R7_10.out.frm hf)
            have R8_11 := Lib.hid (R8_10.out.frm hf)
            clear hs hf
            go_wp2_with fail
            with_reducible refine (sw_goods S_11.out).mono ?_
            rintro e w12 ⟨v12, rfl, hr, hs, hf⟩
            have S_12 := Lib.hid hs
            have R7_12 := Lib.hid (R7_11.out.below hf)
            have R8_12 := Lib.hid (R8_11.out.below hf)
            have R10_12 := Lib.hid hr
            clear hs hf hr
            go_wp2_with fail
            with_reducible refine (sw_sameG S_12.out R10_12.out R7_12.out (by rw [goods_len]; have := HK2.out; omega)).mono ?_
            rintro e w13 ⟨rfl, hs, hf⟩
            have S_13 := Lib.hid hs
            have R7_13 := Lib.hid (R7_12.out.below hf)
            have R8_13 := Lib.hid (R8_12.out.below hf)
            have R10_13 := Lib.hid (R10_12.out.below hf)
            clear hs hf
            go_wp2_with fail
            with_reducible refine (sw_holds S_13.out (by have := HH2.out; omega)).mono ?_
            rintro e w14 ⟨v14, rfl, hr, hs, hf⟩
            have S_14 := Lib.hid hs
            have R7_14 := Lib.hid (R7_13.out.below hf)
            have R8_14 := Lib.hid (R8_13.out.below hf)
            have R10_14 := Lib.hid (R10_13.out.below hf)
            have R11_14 := Lib.hid hr
            clear hs hf hr
            go_wp2_with fail
            with_reducible refine (sw_sameH S_14.out R11_14.out R8_14.out (by have := HH2.out; omega)).mono ?_
            rintro e w15 ⟨rfl, hs, hf⟩
            have S_15 := Lib.hid hs
            have R7_15 := Lib.hid (R7_14.out.below hf)
            have R8_15 := Lib.hid (R8_14.out.below hf)
            have R10_15 := Lib.hid (R10_14.out.below hf)
            have R11_15 := Lib.hid (R11_14.out.below hf)
            clear hs hf
            go_wp2_with fail
            with_reducible refine (sw_free S_15.out o ho).mono ?_
            rintro e w16 ⟨he, hs, hf⟩
            rw [endV_no HE.out] at he
            rw [endS_no HE.out] at hs
            subst he
            have S_16 := Lib.hid hs
            clear hs hf
            go_wp2_with fail
            with_reducible refine (HK.out _).mono ?_
            rintro e w17 ⟨rfl, hb⟩
            have S_17 := Lib.hid (S_16.out.below hb)
            clear hb
            go_wp2
            go_ret
            exact ⟨rfl, S_17.out.bel⟩

end Go.Proofs.Ytimoobhnhldgbaa
