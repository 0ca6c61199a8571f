/-
  The walk of StockApart.
-/
import Derived.Test.YtimoobhnhldgbaaApartP
import Derived.Test.YtimoobhnhldgbaaMostWalk
import Derived.Test.YtimoobhnhldgbaaSumWalk
import Derived.Deep.DeepCutAuto
import Derived.Deep.CutRange
import Derived.Deep.CutBlock
namespace Go.Proofs.Ytimoobhnhldgbaa
open Go.Proofs Go.RowKit
set_option maxRecDepth 100000
set_option linter.unusedVariables false
set_option linter.unusedSimpArgs false

def ApR (w : World) (a : List Ac) (K : List Kd) (b t : SB) (v9 i : Value) (wr : World) : Prop := ∃ (j : Nat) (q : Ss), j ≤ a.length ∧ j ≤ 60 ∧ i = .int .i64 (j : Int) ∧ SW w wr b q ∧ q.H.length ≤ j ∧ SW w wr t ⟨K, []⟩ ∧ RG wr b v9 (goodsL K) ∧ (goodsL q.K).length = (goodsL K).length
def ApN (w : World) (K : List Kd) (b t : SB) (q q2 : Ss) (tt : Int) (o : Nat) (x : List UInt8) (v9 v11 v12 v14 i : Value) (wr : World) : Prop := ∃ k : Nat, k ≤ q.H.length ∧ i = .int .i64 (k : Int) ∧ v14 = encStr (lastN o x (q.H.take k)) ∧ SW w wr b q2 ∧ SW w wr t ⟨K, []⟩ ∧ RG wr b v9 (goodsL K) ∧ RG wr b v11 (goodsL q.K) ∧ RH wr b v12 q.H ∧ (tt = 0 ∨ tt = 1 → k = 0)
def ApK (w : World) (K : List Kd) (b t : SB) (q q2 : Ss) (n : Nat) (v9 v11 v16 i : Value) (wr : World) : Prop := ∃ k : Nat, k ≤ n ∧ i = .int .i64 (k : Int) ∧ SW w wr b q2 ∧ SW w wr t ⟨K, []⟩ ∧ RG wr b v9 (goodsL K) ∧ RG wr b v11 (goodsL q.K) ∧ RG wr b v16 (goodsL q2.K)
def ApC (w : World) (K : List Kd) (b t : SB) (q q2 : Ss) (a : Ac) (v9 v11 v14 : Value) (wr : World) : Prop := v14 = encStr (nameOf q a) ∧ SW w wr b q2 ∧ SW w wr t ⟨K, []⟩ ∧ RG wr b v9 (goodsL K) ∧ RG wr b v11 (goodsL q.K)

set_option maxHeartbeats 16000000 in
theorem stockApart_walk (A : Option Addr) (n c : Nat) (l : List Gd) (B : Option Addr) (m d : Nat) (a : List Ac) (w : World) (hG : Gin w A n l) (hn : n ≤ maxLen) (hL : GoodsOk l) (hA : Ain w B m a) (hm : m ≤ maxLen) (hAO : ActsOk a)
    (KN : ∀ W, Calls Try.prog 10 #[] W fun e w' => e = .returned (.bool true) ∧ Below W.heap.size W w') :
    Calls Try.prog 7 #[.slice A n c, .slice B m d] w fun e w' => e = .returned (.bool true) ∧ Below w.heap.size w w' := by
  have HG := Lib.hid hG
  have HA := Lib.hid hA
  have HL := Lib.hid hL
  have HAO := Lib.hid hAO
  have HN := Lib.hid hG.1
  have HM := Lib.hid hA.1
  have HK := Lib.hid KN
  have HC := Lib.hid (long_any A n c l B m d a w hG hA hm hn)
  have hmm : (m : Int) ≤ 9223372036854775807 := by unfold maxLen at hm; omega
  clear hG hA hL hAO KN hm
  go_enter Try.func7, Try.ntmps7
  go_wp2_with fail
  with_reducible refine HC.out.mono ?_
  rintro e w1 ⟨rfl, rfl | ⟨rfl, hs⟩⟩
  · go_wp2_with fail
    with_reducible refine (HK.out _).mono ?_
    rintro e w2 ⟨rfl, hb⟩
    have HB := Lib.hid hb
    clear hb
    go_wp2
    go_ret
    exact ⟨rfl, HB.out⟩
  · have HS := Lib.hid hs
    have hn2 : n ≤ 200 := by have := hs.1; have := HN.out; omega
    clear hs HC hn
    go_wp2_with fail
    with_reducible refine (sw_new (Below.refl _ _) A n c l HG.out (by omega) HS.out.names).mono ?_
    rintro e w1 ⟨hb, ⟨h1, rfl⟩ | ⟨K, b, h1, rfl, hs, -⟩⟩
    · have HB := Lib.hid hb
      have HG1 := Lib.hid (HG.out.below hb)
      have HNO := Lib.hid h1
      clear hb h1
      go_wp2_with fail
      with_reducible refine (sw_new HB.out A n c l HG1.out (by omega) HS.out.names).mono ?_
      rintro e w2 ⟨hb, ⟨h2, rfl⟩ | ⟨K, b, h2, rfl, hs, -⟩⟩
      · have HB2 := Lib.hid (HB.out.trans (hb.mono HB.out.size))
        clear hb h2
        go_wp2_with fail
        with_reducible refine (HK.out _).mono ?_
        rintro e w3 ⟨rfl, hb⟩
        have HB3 := Lib.hid (HB2.out.trans (hb.mono HB2.out.size))
        clear hb
        go_wp2
        go_ret
        exact ⟨rfl, HB3.out⟩
      · rw [HNO.out] at h2; cases h2
    · have S_1 := Lib.hid hs
      have HNW := Lib.hid (newOf_some h1).2.2
      have HYE := Lib.hid h1
      have HG1 := Lib.hid (HG.out.below hb)
      clear hb h1 hs
      go_wp2_with fail
      with_reducible refine (sw_new S_1.out.bel A n c l HG1.out (by omega) HS.out.names).mono ?_
      rintro e w2 ⟨hb, ⟨h2, rfl⟩ | ⟨K', t, h2, rfl, hs, hl1, hl2, hl3⟩⟩
      · rw [HYE.out] at h2; cases h2
      · rw [HYE.out] at h2
        injection h2 with h2
        subst h2
        have T_4 := Lib.hid hs
        have S_4 := Lib.hid (S_1.out.below hb)
        have HFAR : Hid (Far b t) := Lib.hid (far_of S_1.out.ok hl1 hl2 hl3)
        clear hb hs hl1 hl2 hl3 S_1 HG1
        have HLK : Hid ((goodsL K).length = n) := Lib.hid (by rw [goods_len, HNW.out.len, HN.out])
        go_wp2_with fail
        with_reducible refine (sw_goods2 T_4.out S_4.out).mono ?_
        rintro e w5 ⟨v5, rfl, hr, ht, hf⟩
        have S_5 := Lib.hid (S_4.out.below hf)
        have T_5 := Lib.hid ht
        have R9_5 := Lib.hid hr
        clear hr ht hf S_4 T_4
        obtain ⟨A9, c9, rfl, -, -⟩ := R9_5.out.gin
        dsimp only at R9_5
        rw [HLK.out] at R9_5
        rw [HLK.out]
        go_wp2_with fail
        go_loopw [10] (fun i wr => ApR w a K b t (.slice A9 n c9) i wr) (fun i _ => 61 - (intOf i).toNat)
        case atStart => exact ⟨0, ⟨K, []⟩, by omega, by omega, rfl, S_5.out, Nat.le_refl _, T_5.out, R9_5.out, rfl⟩
        case round =>
          clear S_5 T_5 R9_5
          obtain ⟨j, q, hj, hj2, rfl, hS, hH, hT, hR9, hKq⟩ := hrel
          have S_8 := Lib.hid hS
          have T_8 := Lib.hid hT
          have R9_8 := Lib.hid hR9
          have HH := Lib.hid hH
          have HKQ := Lib.hid hKq
          clear hS hH hT hR9 hKq
          have hjm : j ≤ m := by have := HM.out; omega
          by_cases hlt : j < m
          · have hlt2 : (j : Int) < (m : Int) := by omega
            by_cases hq3 : j < 60
            · have e2 : decide ((j : Int) < 60) = true := by simp; omega
              have hlt3 : j < a.length := by have := HM.out; omega
              obtain ⟨b0, off, rfl, hbl, hcell⟩ := HA.out.2 (by omega)
              obtain ⟨x0, x1, x2, x3⟩ := hcell j hlt3
              obtain ⟨xx, hxx⟩ : ∃ z, a[j] = z := ⟨_, rfl⟩
              have HXO : Hid (in64 xx.t ∧ xx.o < 4294967296 ∧ xx.x.length ≤ maxLen ∧ in64 xx.n) := Lib.hid (by have := HAO.out a[j] (List.getElem_mem hlt3); rwa [hxx] at this)
              rw [hxx] at x0 x1 x2 x3
              clear hcell hxx
              obtain ⟨xt, xo, xn, xk⟩ := xx
              dsimp only at x0 x1 x2 x3 HXO
              have HX0 := Lib.hid x0
              have HX1 := Lib.hid x1
              have HX2 := Lib.hid x2
              have HX3 := Lib.hid x3
              clear x0 x1 x2 x3
              go_wp2_with fail
              with_reducible refine (sw_goods S_8.out).mono ?_
              rintro e w11 ⟨v11, rfl, hr, hs, hf⟩
              have S_11 := Lib.hid hs
              have T_11 := Lib.hid (T_8.out.below hf)
              have R9_11 := Lib.hid (R9_8.out.below hf)
              have R11_11 := Lib.hid hr
              clear hs hf hr
              obtain ⟨A11, c11, rfl, -, -⟩ := R11_11.out.gin
              rw [HKQ.out, HLK.out] at R11_11
              rw [HKQ.out, HLK.out]
              go_wp2_with fail
              with_reducible refine (sw_holds S_11.out (by have := HH.out; omega)).mono ?_
              rintro e w12 ⟨v12, rfl, hr, hs, hf⟩
              have S_12 := Lib.hid hs
              have T_12 := Lib.hid (T_11.out.below hf)
              have R9_12 := Lib.hid (R9_11.out.below hf)
              have R11_12 := Lib.hid (R11_11.out.below hf)
              have R12_12 := Lib.hid hr
              clear hs hf hr
              obtain ⟨A12, c12, rfl, -, -⟩ := R12_12.out.hin
              have hz3 : (q.H.length : Int) ≤ 60 := by have := HH.out; omega
              have x0 := HX0.out
              have x1 := HX1.out
              have x2 := HX2.out
              have x3 := HX3.out
              rw [← S_12.out.bel.cell (p := ⟨b0, off + j * 4, none⟩) hbl] at x0
              rw [← S_12.out.bel.cell (p := ⟨b0, off + j * 4 + 1, none⟩) hbl] at x1
              rw [← S_12.out.bel.cell (p := ⟨b0, off + j * 4 + 2, none⟩) hbl] at x2
              rw [← S_12.out.bel.cell (p := ⟨b0, off + j * 4 + 3, none⟩) hbl] at x3
              go_wp2_with fail
              with_reducible refine (sw_act S_12.out xt xo xn xk HXO.out.2.1 HXO.out.2.2.1 HXO.out.2.2.2 (by have := HH.out; omega)).mono ?_
              rintro e w13 ⟨rfl, hs, hf⟩
              have S_13 := Lib.hid hs
              have T_13 := Lib.hid (T_12.out.other S_12.out hf HFAR.out)
              have R9_13 := Lib.hid (R9_12.out.frm hf)
              have R11_13 := Lib.hid (R11_12.out.frm hf)
              have R12_13 := Lib.hid (R12_12.out.frm hf)
              clear hs hf
              clear x0 x1 x2 x3
              have x0 := HX0.out
              have x1 := HX1.out
              have x2 := HX2.out
              have x3 := HX3.out
              rw [← S_13.out.bel.cell (p := ⟨b0, off + j * 4, none⟩) hbl] at x0
              rw [← S_13.out.bel.cell (p := ⟨b0, off + j * 4 + 1, none⟩) hbl] at x1
              rw [← S_13.out.bel.cell (p := ⟨b0, off + j * 4 + 2, none⟩) hbl] at x2
              rw [← S_13.out.bel.cell (p := ⟨b0, off + j * 4 + 3, none⟩) hbl] at x3
              have HAP : Hid (actV q ⟨xt, xo, xn, xk⟩ = true → ∀ (i : Nat) (h : i < (goodsL (actS q ⟨xt, xo, xn, xk⟩).K).length) (h' : i < (goodsL q.K).length), (goodsL (actS q ⟨xt, xo, xn, xk⟩).K)[i].n ≠ nameOf q ⟨xt, xo, xn, xk⟩ → (goodsL (actS q ⟨xt, xo, xn, xk⟩).K)[i] = (goodsL q.K)[i]) := Lib.hid (fun hv i h h' hn => act_apart S_12.out.inv ⟨xt, xo, xn, xk⟩ hv i h h' hn)
              have HH2 : Hid ((actS q ⟨xt, xo, xn, xk⟩).H.length ≤ j + 1) := Lib.hid (by have := (actS_len q ⟨xt, xo, xn, xk⟩).1; have := HH.out; omega)
              have HK2 : Hid ((goodsL (actS q ⟨xt, xo, xn, xk⟩).K).length = n) := Lib.hid (by have := congrArg List.length (actS_len q ⟨xt, xo, xn, xk⟩).2; rw [List.length_map, List.length_map] at this; rw [goods_len, this, ← goods_len, HKQ.out, HLK.out])
              have HNA : Hid ((xt = 0 ∨ xt = 1 → nameOf q ⟨xt, xo, xn, xk⟩ = lastN xo xn (q.H.take 0)) ∧ (¬ (xt = 0 ∨ xt = 1) → nameOf q ⟨xt, xo, xn, xk⟩ = lastN xo xn q.H)) := Lib.hid ⟨fun h => by unfold nameOf; rw [if_pos h]; rfl, fun h => (lastN_of S_12.out.inv ⟨xt, xo, xn, xk⟩ h).symm⟩
              obtain ⟨va, hva⟩ : ∃ v, actV q ⟨xt, xo, xn, xk⟩ = v := ⟨_, rfl⟩
              rw [hva] at HAP
              rw [hva]
              clear hva
              obtain ⟨q2, hq2⟩ : ∃ q2, actS q ⟨xt, xo, xn, xk⟩ = q2 := ⟨_, rfl⟩
              rw [hq2] at S_13 HAP HH2 HK2
              clear hq2
              go_upto_block 2 with (fail)
              go_cut [14] from 49 to 141 (fun s14 W => ApC w K b t q q2 ⟨xt, xo, xn, xk⟩ (.slice A9 n c9) (.slice A11 n c11) s14 W)
              case first =>
                go_wp2_with fail
                go_loopw [14, 15] (fun v14 i wr => ApN w K b t q q2 xt xo xn (.slice A9 n c9) (.slice A11 n c11) (.slice A12 q.H.length c12) v14 i wr) (fun _ i _ => q.H.length - (intOf i).toNat)
                case atStart => exact ⟨0, by omega, rfl, rfl, S_13.out, T_13.out, R9_13.out, R11_13.out, R12_13.out, fun _ => rfl⟩
                case round =>
                  clear S_13 T_13 R9_13 R11_13 R12_13
                  obtain ⟨k, hk, rfl, rfl, hS, hT, hR9, hR11, hR12, hk0⟩ := hrel
                  have HK0 := Lib.hid hk0
                  have S_14 := Lib.hid hS
                  have T_14 := Lib.hid hT
                  have R9_14 := Lib.hid hR9
                  have R11_14 := Lib.hid hR11
                  have R12_14 := Lib.hid hR12
                  clear hS hT hR9 hR11 hR12 hk0
                  have x0 := HX0.out
                  have x1 := HX1.out
                  have x2 := HX2.out
                  have x3 := HX3.out
                  rw [← S_14.out.bel.cell (p := ⟨b0, off + j * 4, none⟩) hbl] at x0
                  rw [← S_14.out.bel.cell (p := ⟨b0, off + j * 4 + 1, none⟩) hbl] at x1
                  rw [← S_14.out.bel.cell (p := ⟨b0, off + j * 4 + 2, none⟩) hbl] at x2
                  rw [← S_14.out.bel.cell (p := ⟨b0, off + j * 4 + 3, none⟩) hbl] at x3
                  by_cases hk1 : k < q.H.length
                  · have hk2 : (k : Int) < (q.H.length : Int) := by omega
                    by_cases ht0 : xt = 0
                    · have e5 : (xt != 0) = false := by simp [ht0]
                      have HNM : Hid (nameOf q ⟨xt, xo, xn, xk⟩ = lastN xo xn (q.H.take k)) := Lib.hid (by rw [HK0.out (.inl ht0)]; exact HNA.out.1 (.inl ht0))
                      clear ht0
                      go_wp2_with fail
                      go_meet
                      exact ⟨by rw [HNM.out], S_14.out, T_14.out, R9_14.out, R11_14.out⟩
                    · have e5 : (xt != 0) = true := by simpa using ht0
                      by_cases ht1 : xt = 1
                      · have e6 : (xt != 1) = false := by simp [ht1]
                        have HNM : Hid (nameOf q ⟨xt, xo, xn, xk⟩ = lastN xo xn (q.H.take k)) := Lib.hid (by rw [HK0.out (.inr ht1)]; exact HNA.out.1 (.inr ht1))
                        clear ht1
                        go_wp2_with fail
                        go_meet
                        exact ⟨by rw [HNM.out], S_14.out, T_14.out, R9_14.out, R11_14.out⟩
                      · have e6 : (xt != 1) = true := by simpa using ht1
                        obtain ⟨g12, o12, rfl, y0, y1, -⟩ := R12_14.out.at k hk1
                        obtain ⟨yy, hyy⟩ : ∃ z, q.H[k] = z := ⟨_, rfl⟩
                        rw [hyy] at y0 y1
                        have HST : Hid (lastN xo xn (q.H.take (k + 1)) = nmF xo (lastN xo xn (q.H.take k)) yy) := Lib.hid (by rw [List.take_succ_eq_append_getElem hk1, lastN_snoc, hyy])
                        clear hyy
                        by_cases hoo : yy.o = xo
                        · have e7 : ((yy.o : Int) == (xo : Int)) = true := by simp; omega
                          have hst2 : lastN xo xn (q.H.take (k + 1)) = yy.n := by rw [HST.out]; exact if_pos hoo
                          have HST2 := Lib.hid hst2
                          clear hst2 HST hoo
                          go_wp2_with fail
                          go_quiet (fail)
                          go_wp2
                          go_roundw
                          case rel => exact ⟨k + 1, by omega, by go_num, by rw [HST2.out], S_14.out.drewN _, T_14.out.drewN _, R9_14.out.drewN _, R11_14.out.drewN _, R12_14.out.drewN _, fun h => absurd h (fun h => h.elim ht0 ht1)⟩
                          case measure => simp [intOf]; omega
                        · have e7 : ((yy.o : Int) == (xo : Int)) = false := by rw [beq_eq_false_iff_ne]; omega
                          have hst2 : lastN xo xn (q.H.take (k + 1)) = lastN xo xn (q.H.take k) := by rw [HST.out]; exact if_neg hoo
                          have HST2 := Lib.hid hst2
                          clear hst2 HST hoo
                          go_wp2_with fail
                          go_quiet (fail)
                          go_wp2
                          go_roundw
                          case rel => exact ⟨k + 1, by omega, by go_num, by rw [HST2.out], S_14.out.drewN _, T_14.out.drewN _, R9_14.out.drewN _, R11_14.out.drewN _, R12_14.out.drewN _, fun h => absurd h (fun h => h.elim ht0 ht1)⟩
                          case measure => simp [intOf]; omega
                  · have hk2 : decide ((k : Int) < (q.H.length : Int)) = false := by simp; omega
                    have HNM : Hid (nameOf q ⟨xt, xo, xn, xk⟩ = lastN xo xn (q.H.take k)) := Lib.hid (by
                      by_cases h : xt = 0 ∨ xt = 1
                      · rw [HK0.out h]; exact HNA.out.1 h
                      · rw [show q.H.take k = q.H from by rw [show k = q.H.length from by omega, List.take_length]]; exact HNA.out.2 h)
                    go_wp2_with fail
                    go_meet
                    exact ⟨by rw [HNM.out], S_14.out, T_14.out, R9_14.out, R11_14.out⟩
              case rest =>
                clear S_13 T_13 R9_13 R11_13 R12_13
                obtain ⟨rfl, hS, hT, hR9, hR11⟩ := hcut
                have S_15 := Lib.hid hS
                have T_15 := Lib.hid hT
                have R9_15 := Lib.hid hR9
                have R11_15 := Lib.hid hR11
                clear hS hT hR9 hR11
                obtain ⟨nm, hnm⟩ : ∃ z, nameOf q ⟨xt, xo, xn, xk⟩ = z := ⟨_, rfl⟩
                rw [hnm] at HAP ⊢
                clear hnm
                go_wp2_with fail
                with_reducible refine (sw_goods S_15.out).mono ?_
                rintro e w16 ⟨v16, rfl, hr, hs, hf⟩
                have S_16 := Lib.hid hs
                have T_16 := Lib.hid (T_15.out.below hf)
                have R9_16 := Lib.hid (R9_15.out.below hf)
                have R11_16 := Lib.hid (R11_15.out.below hf)
                have R16_16 := Lib.hid hr
                clear hs hf hr
                obtain ⟨A16, c16, rfl, -, -⟩ := R16_16.out.gin
                rw [HK2.out] at R16_16
                rw [HK2.out]
                cases va
                · simp only [verd, Bool.false_eq_true, if_false]
                  go_wp2_with fail
                  go_loopw [17] (fun i wr => ApK w K b t q q2 n (.slice A9 n c9) (.slice A11 n c11) (.slice A16 n c16) i wr) (fun i _ => n - (intOf i).toNat)
                  case atStart => exact ⟨0, by omega, rfl, S_16.out, T_16.out, R9_16.out, R11_16.out, R16_16.out⟩
                  case round =>
                    clear S_16 T_16 R9_16 R11_16 R16_16
                    obtain ⟨k, hk, rfl, hS, hT, hR9, hR11, hR16⟩ := hrel
                    have S_17 := Lib.hid hS
                    have T_17 := Lib.hid hT
                    have R9_17 := Lib.hid hR9
                    clear hS hT hR9 hR11 hR16
                    by_cases hk1 : k < n
                    · have hk2 : (k : Int) < (n : Int) := by omega
                      go_wp2
                      go_roundw
                      case rel => exact ⟨j + 1, q2, by omega, by omega, by go_num, S_17.out, by have := HH2.out; omega, T_17.out, R9_17.out, by rw [HK2.out, HLK.out]⟩
                      case measure => simp [intOf]; omega
                    · have hk2 : decide ((k : Int) < (n : Int)) = false := by simp; omega
                      go_wp2
                      go_roundw
                      case rel => exact ⟨j + 1, q2, by omega, by omega, by go_num, S_17.out, by have := HH2.out; omega, T_17.out, R9_17.out, by rw [HK2.out, HLK.out]⟩
                      case measure => simp [intOf]; omega
                · simp only [verd, if_true]
                  go_wp2_with fail
                  go_loopw [17] (fun i wr => ApK w K b t q q2 n (.slice A9 n c9) (.slice A11 n c11) (.slice A16 n c16) i wr) (fun i _ => n - (intOf i).toNat)
                  case atStart => exact ⟨0, by omega, rfl, S_16.out, T_16.out, R9_16.out, R11_16.out, R16_16.out⟩
                  case round =>
                    clear S_16 T_16 R9_16 R11_16 R16_16
                    obtain ⟨k, hk, rfl, hS, hT, hR9, hR11, hR16⟩ := hrel
                    have S_17 := Lib.hid hS
                    have T_17 := Lib.hid hT
                    have R9_17 := Lib.hid hR9
                    have R11_17 := Lib.hid hR11
                    have R16_17 := Lib.hid hR16
                    clear hS hT hR9 hR11 hR16
                    by_cases hk1 : k < n
                    · have hk2 : (k : Int) < (n : Int) := by omega
                      obtain ⟨g16, o16, rfl, y0, y1⟩ := R16_17.out.at k (by rw [HK2.out]; exact hk1)
                      obtain ⟨g11, o11, rfl, z0, z1⟩ := R11_17.out.at k (by rw [HKQ.out, HLK.out]; exact hk1)
                      have hap := HAP.out (by first | rfl | trivial) k (by rw [HK2.out]; exact hk1) (by rw [HKQ.out, HLK.out]; exact hk1)
                      obtain ⟨y, hy⟩ : ∃ z, (goodsL q2.K)[k]'(by rw [HK2.out]; exact hk1) = z := ⟨_, rfl⟩
                      rw [hy] at y0 y1 hap
                      clear hy
                      by_cases hnn : y.n = nm
                      · rw [hnn] at y0
                        clear hnn hap z0 z1
                        go_wp2_with fail
                        go_quiet (fail)
                        go_wp2
                        go_roundw
                        case rel => exact ⟨k + 1, by omega, by go_num, S_17.out.drewN _, T_17.out.drewN _, R9_17.out.drewN _, R11_17.out.drewN _, R16_17.out.drewN _⟩
                        case measure => simp [intOf]; omega
                      · rw [← hap hnn] at z0 z1
                        have e6 : (y.n == nm) = false := by simpa using hnn
                        have e7 : decide (y.n = nm) = false := by simpa using hnn
                        have e8 : (y.n != nm) = true := by simpa using hnn
                        have hne := fun W => run_neq46 y.n y.f W
                        have hgd := guard46
                        clear hap
                        go_wp2_with fail
                        go_quiet (fail)
                        clear hne hgd y0 y1 z0 z1
                        go_wp2
                        go_roundw
                        case rel => exact ⟨k + 1, by omega, by go_num, S_17.out.drewN _, T_17.out.drewN _, R9_17.out.drewN _, R11_17.out.drewN _, R16_17.out.drewN _⟩
                        case measure => simp [intOf]; omega
                    · have hk2 : decide ((k : Int) < (n : Int)) = false := by simp; omega
                      go_wp2
                      go_roundw
                      case rel => exact ⟨j + 1, q2, by omega, by omega, by go_num, S_17.out, by have := HH2.out; omega, T_17.out, R9_17.out, by rw [HK2.out, HLK.out]⟩
                      case measure => simp [intOf]; omega
            · have e2 : decide ((j : Int) < 60) = false := by simp; omega
              skip
              clear HH HKQ
              have N30 : Hid (Calls Try.prog 26 #[.pointer none, .int .u32 1, .string ⟨#[97]⟩, .int .i64 1] wr fun e w' => e = .returned (.int .i64 2) ∧ wr = w') := Lib.hid (hold_nil _ _ _ wr)
              go_wp2_with fail
              with_reducible refine N30.out.mono ?_
              rintro e w30 ⟨rfl, rfl⟩
              clear N30
              have N31 : Hid (Calls Try.prog 24 #[.pointer none, .int .u32 1] wr fun e w' => e = .returned (.int .i64 2) ∧ wr = w') := Lib.hid (free_nil _ wr)
              go_wp2_with fail
              with_reducible refine N31.out.mono ?_
              rintro e w31 ⟨rfl, rfl⟩
              clear N31
              have N32 : Hid (Calls Try.prog 25 #[.pointer none, .int .u32 1] wr fun e w' => e = .returned (.int .i64 2) ∧ wr = w') := Lib.hid (ship_nil _ wr)
              go_wp2_with fail
              with_reducible refine N32.out.mono ?_
              rintro e w32 ⟨rfl, rfl⟩
              clear N32
              have N33 : Hid (Calls Try.prog 16 #[.pointer none] wr fun e w' => e = .returned (.slice none 0 0) ∧ wr = w') := Lib.hid (goods_nil wr)
              go_wp2_with fail
              with_reducible refine N33.out.mono ?_
              rintro e w33 ⟨rfl, rfl⟩
              clear N33
              have N34 : Hid (Calls Try.prog 17 #[.pointer none] wr fun e w' => e = .returned (.slice none 0 0) ∧ wr = w') := Lib.hid (holds_nil wr)
              go_wp2_with fail
              with_reducible refine N34.out.mono ?_
              rintro e w34 ⟨rfl, rfl⟩
              clear N34
              have N35 : Hid (Calls Try.prog 22 #[.pointer none, .string ⟨#[97]⟩] wr fun e w' => e = .returned (.int .i64 0) ∧ wr = w') := Lib.hid (gone_nil _ wr)
              go_wp2_with fail
              with_reducible refine N35.out.mono ?_
              rintro e w35 ⟨rfl, rfl⟩
              clear N35
              go_wp2_with fail
              with_reducible refine (sw_goods2 T_8.out S_8.out).mono ?_
              rintro e w36 ⟨v36, rfl, hr, ht, hf⟩
              have S_36 := Lib.hid (S_8.out.below hf)
              have T_36 := Lib.hid ht
              have R9_36 := Lib.hid (R9_8.out.below hf)
              have R6_36 := Lib.hid hr
              clear hr ht hf
              go_wp2_with fail
              with_reducible refine (sw_sameG S_36.out R6_36.out R9_36.out (by rw [HLK.out]; omega)).mono ?_
              rintro e w37 ⟨rfl, hs, hf⟩
              have S_37 := Lib.hid hs
              have T_37 := Lib.hid (T_36.out.below hf)
              clear hs hf
              go_wp2_with fail
              with_reducible refine (sw_holds T_37.out (by simp)).mono ?_
              rintro e w38 ⟨v38, rfl, hr, ht, hf⟩
              have T_38 := Lib.hid ht
              obtain ⟨A38, c38, rfl, -, -⟩ := hr.hin
              clear hr ht hf
              dsimp only [List.length_nil]
              go_wp2_with fail
              with_reducible refine (HK.out _).mono ?_
              rintro e w39 ⟨rfl, hb⟩
              have S_39 := Lib.hid (T_38.out.below hb)
              clear hb
              go_wp2
              go_ret
              exact ⟨rfl, S_39.out.bel⟩
          · have hnl : decide ((j : Int) < (m : Int)) = false := by simp; omega
            skip
            clear HH HKQ
            have N30 : Hid (Calls Try.prog 26 #[.pointer none, .int .u32 1, .string ⟨#[97]⟩, .int .i64 1] wr fun e w' => e = .returned (.int .i64 2) ∧ wr = w') := Lib.hid (hold_nil _ _ _ wr)
            go_wp2_with fail
            with_reducible refine N30.out.mono ?_
            rintro e w30 ⟨rfl, rfl⟩
            clear N30
            have N31 : Hid (Calls Try.prog 24 #[.pointer none, .int .u32 1] wr fun e w' => e = .returned (.int .i64 2) ∧ wr = w') := Lib.hid (free_nil _ wr)
            go_wp2_with fail
            with_reducible refine N31.out.mono ?_
            rintro e w31 ⟨rfl, rfl⟩
            clear N31
            have N32 : Hid (Calls Try.prog 25 #[.pointer none, .int .u32 1] wr fun e w' => e = .returned (.int .i64 2) ∧ wr = w') := Lib.hid (ship_nil _ wr)
            go_wp2_with fail
            with_reducible refine N32.out.mono ?_
            rintro e w32 ⟨rfl, rfl⟩
            clear N32
            have N33 : Hid (Calls Try.prog 16 #[.pointer none] wr fun e w' => e = .returned (.slice none 0 0) ∧ wr = w') := Lib.hid (goods_nil wr)
            go_wp2_with fail
            with_reducible refine N33.out.mono ?_
            rintro e w33 ⟨rfl, rfl⟩
            clear N33
            have N34 : Hid (Calls Try.prog 17 #[.pointer none] wr fun e w' => e = .returned (.slice none 0 0) ∧ wr = w') := Lib.hid (holds_nil wr)
            go_wp2_with fail
            with_reducible refine N34.out.mono ?_
            rintro e w34 ⟨rfl, rfl⟩
            clear N34
            have N35 : Hid (Calls Try.prog 22 #[.pointer none, .string ⟨#[97]⟩] wr fun e w' => e = .returned (.int .i64 0) ∧ wr = w') := Lib.hid (gone_nil _ wr)
            go_wp2_with fail
            with_reducible refine N35.out.mono ?_
            rintro e w35 ⟨rfl, rfl⟩
            clear N35
            go_wp2_with fail
            with_reducible refine (sw_goods2 T_8.out S_8.out).mono ?_
            rintro e w36 ⟨v36, rfl, hr, ht, hf⟩
            have S_36 := Lib.hid (S_8.out.below hf)
            have T_36 := Lib.hid ht
            have R9_36 := Lib.hid (R9_8.out.below hf)
            have R6_36 := Lib.hid hr
            clear hr ht hf
            go_wp2_with fail
            with_reducible refine (sw_sameG S_36.out R6_36.out R9_36.out (by rw [HLK.out]; omega)).mono ?_
            rintro e w37 ⟨rfl, hs, hf⟩
            have S_37 := Lib.hid hs
            have T_37 := Lib.hid (T_36.out.below hf)
            clear hs hf
            go_wp2_with fail
            with_reducible refine (sw_holds T_37.out (by simp)).mono ?_
            rintro e w38 ⟨v38, rfl, hr, ht, hf⟩
            have T_38 := Lib.hid ht
            obtain ⟨A38, c38, rfl, -, -⟩ := hr.hin
            clear hr ht hf
            dsimp only [List.length_nil]
            go_wp2_with fail
            with_reducible refine (HK.out _).mono ?_
            rintro e w39 ⟨rfl, hb⟩
            have S_39 := Lib.hid (T_38.out.below hb)
            clear hb
            go_wp2
            go_ret
            exact ⟨rfl, S_39.out.bel⟩

end Go.Proofs.Ytimoobhnhldgbaa
