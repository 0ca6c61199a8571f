/-
  The walk of StockSum.
-/
import Derived.Test.YtimoobhnhldgbaaSumP
import Derived.Test.YtimoobhnhldgbaaMostWalk
namespace Go.Proofs.Ytimoobhnhldgbaa
open Go.Proofs Go.RowKit
set_option maxRecDepth 100000
set_option linter.unusedVariables false
set_option linter.unusedSimpArgs false

def SuR (w : World) (a : List Ac) (K : List Kd) (b : SB) (v7 i : Value) (wr : World) : Prop := ∃ (j : Nat) (q : Ss), j ≤ a.length ∧ j ≤ 120 ∧ i = .int .i64 (j : Int) ∧ SW w wr b q ∧ q.H.length ≤ j ∧ sumL q = goodsL K ∧ RG wr b v7 (goodsL K)
def SuI (w : World) (K : List Kd) (q : Ss) (b : SB) (v7 v12 v13 i : Value) (wr : World) : Prop := ∃ k : Nat, k ≤ (goodsL K).length ∧ i = .int .i64 (k : Int) ∧ SW w wr b q ∧ RG wr b v7 (goodsL K) ∧ RG wr b v12 (goodsL q.K) ∧ RH wr b v13 q.H
def Cel4 (g12 o12 g7 o7 k : Nat) (y : Kd) (hv : Int) (w : World) : Prop := w.cell? ⟨g12, o12 + k * 2, none⟩ = some (encStr y.n) ∧ w.cell? ⟨g12, o12 + k * 2 + 1, none⟩ = some (.int .i64 y.f) ∧ w.cell? ⟨g7, o7 + k * 2, none⟩ = some (encStr y.n) ∧ w.cell? ⟨g7, o7 + k * 2 + 1, none⟩ = some (.int .i64 (y.f + y.g + hv))
def SuJ (w : World) (K : List Kd) (q : Ss) (b : SB) (v7 v12 v13 : Value) (g12 o12 g7 o7 k : Nat) (y : Kd) (v15 v16 : Value) (wr : World) : Prop := ∃ i : Nat, i ≤ q.H.length ∧ v16 = .int .i64 (i : Int) ∧ v15 = .int .i64 (y.f + y.g + held (q.H.take i) y.n) ∧ SW w wr b q ∧ RG wr b v7 (goodsL K) ∧ RG wr b v12 (goodsL q.K) ∧ RH wr b v13 q.H ∧ Cel4 g12 o12 g7 o7 k y (held q.H y.n) wr
theorem quiet_gone {w0 w : World} {b : SB} {q : Ss} (h : SW w0 w b q) (x : List UInt8) (hx : x.length ≤ maxLen) (n : Nat) : Calls Try.prog 22 #[.pointer (some ⟨b.s, 0, none⟩), encStr x] (w.drewN n) fun e w' => e = .returned (.int .i64 (goneN q.K x)) ∧ w' = w.drewN n :=
  (sw_gone (h.drewN n) x hx).mono fun _ _ ⟨h1, h2⟩ => ⟨h1, h2.symm⟩
theorem RG.drewN {w : World} {b : SB} {v : Value} {l : List Gd} (h : RG w b v l) (n : Nat) : RG (w.drewN n) b v l := h.below (below_drewN (Below.refl _ _) n)
theorem RH.drewN {w : World} {b : SB} {v : Value} {l : List Hd} (h : RH w b v l) (n : Nat) : RH (w.drewN n) b v l := h.below (below_drewN (Below.refl _ _) n)
/-- The cells of one place. -/
theorem RG.at {w : World} {b : SB} {A : Option Addr} {n c : Nat} {l : List Gd} (h : RG w b (.slice A n c) l) (i : Nat) (hi : i < l.length) : ∃ g o, A = some ⟨g, o, none⟩ ∧ w.cell? ⟨g, o + i * 2, none⟩ = some (encStr l[i].n) ∧ w.cell? ⟨g, o + i * 2 + 1, none⟩ = some (.int .i64 l[i].f) := by
  obtain ⟨A', c', e, hg, -⟩ := h.gin
  injection e with q1 q2 q3
  subst q1 q2 q3
  obtain ⟨g, o, e, -, hc⟩ := hg.2 (by omega)
  exact ⟨g, o, e, hc i hi⟩
theorem RH.at {w : World} {b : SB} {A : Option Addr} {n c : Nat} {l : List Hd} (h : RH w b (.slice A n c) l) (i : Nat) (hi : i < l.length) : ∃ g o, A = some ⟨g, o, none⟩ ∧ w.cell? ⟨g, o + i * 3, none⟩ = some (.int .u32 (l[i].o : Int)) ∧ w.cell? ⟨g, o + i * 3 + 1, none⟩ = some (encStr l[i].n) ∧ w.cell? ⟨g, o + i * 3 + 2, none⟩ = some (.int .i64 l[i].k) := by
  obtain ⟨A', c', e, hg, -⟩ := h.hin
  injection e with q1 q2 q3
  subst q1 q2 q3
  obtain ⟨g, o, e, -, hc⟩ := hg.2 (by omega)
  exact ⟨g, o, e, hc i hi⟩

set_option maxHeartbeats 16000000 in
theorem stockSum_walk (A : Option Addr) (n c : Nat) (l : List Gd) (B : Option Addr) (m d : Nat) (a : List Ac)  (w : World) (hG : Gin w A n l) (hn : n ≤ maxLen) (hL : GoodsOk l) (hA : Ain w B m a) (hm : m ≤ maxLen) (hAO : ActsOk a) 
    (KN : ∀ W, Calls Try.prog 10 #[] W fun e w' => e = .returned (.bool true) ∧ Below W.heap.size W w') :
    Calls Try.prog 4 #[.slice A n c, .slice B m d] w fun e w' => e = .returned (.bool true) ∧ Below w.heap.size w w' := by
  have HG := Lib.hid hG
  have HA := Lib.hid hA
  have HL := Lib.hid hL
  have HAO := Lib.hid hAO
  have HN := Lib.hid hG.1
  have HM := Lib.hid hA.1
  have HK := Lib.hid KN
  have HC := Lib.hid (long_any A n c l B m d a w hG hA hm hn)
  have hmm : (m : Int) ≤ 9223372036854775807 := by unfold maxLen at hm; omega
  clear hG hA hL hAO KN hm
  go_enter Try.func4, Try.ntmps4
  go_wp2_with fail
  with_reducible refine HC.out.mono ?_
  rintro e w1 ⟨rfl, rfl | ⟨rfl, hs⟩⟩
  · go_wp2_with fail
    with_reducible refine (HK.out _).mono ?_
    rintro e w2 ⟨rfl, hb⟩
    have HB := Lib.hid hb
    clear hb
    go_wp2
    go_ret
    exact ⟨rfl, HB.out⟩
  · have HS := Lib.hid hs
    have hn2 : n ≤ 200 := by have := hs.1; have := HN.out; omega
    clear hs HC hn
    go_wp2_with fail
    with_reducible refine (sw_new (Below.refl _ _) A n c l HG.out (by omega) HS.out.names).mono ?_
    rintro e w1 ⟨hb, ⟨h1, rfl⟩ | ⟨K, b, h1, rfl, hs, -⟩⟩
    · have HB := Lib.hid hb
      clear hb h1
      go_wp2_with fail
      with_reducible refine (HK.out _).mono ?_
      rintro e w2 ⟨rfl, hb⟩
      have HB2 := Lib.hid (HB.out.trans (hb.mono HB.out.size))
      clear hb
      go_wp2
      go_ret
      exact ⟨rfl, HB2.out⟩
    · have S_1 := Lib.hid hs
      have HNW := Lib.hid (newOf_some h1).2.2
      clear hb h1 hs
      go_wp2_with fail
      with_reducible refine (sw_goods S_1.out).mono ?_
      rintro e w7 ⟨v7, rfl, hr, hs, hf⟩
      have S_7 := Lib.hid hs
      have R7_7 := Lib.hid hr
      clear hs hf hr
      obtain ⟨A7, c7, rfl, -, -⟩ := R7_7.out.gin
      rw [goods_len, HNW.out.len, HN.out] at R7_7
      rw [goods_len, HNW.out.len, HN.out]
      have HLK : Hid ((goodsL K).length = n) := Lib.hid (by rw [goods_len, HNW.out.len, HN.out])
      have HS0 := Lib.hid (sum_new HNW.out)
      go_wp2_with fail
      go_loopw [8] (fun i wr => SuR w a K b (.slice A7 n c7) i wr) (fun i _ => 121 - (intOf i).toNat)
      case atStart => exact ⟨0, ⟨K, []⟩, by omega, by omega, rfl, S_7.out, Nat.le_refl _, HS0.out, R7_7.out⟩
      case round =>
        clear S_7 R7_7 HS0 S_1
        obtain ⟨j, q, hj, hj2, rfl, hS, hH, hSum, hR7⟩ := hrel
        have S_8 := Lib.hid hS
        have HH := Lib.hid hH
        have HSUM := Lib.hid hSum
        have R7_8 := Lib.hid hR7
        clear hS hH hSum hR7
        have hjm : j ≤ m := by have := HM.out; omega
        by_cases hlt : j < m
        · have hlt2 : (j : Int) < (m : Int) := by omega
          by_cases hq3 : j < 120
          · have e2 : decide ((j : Int) < 120) = true := by simp; omega
            have hlt3 : j < a.length := by have := HM.out; omega
            obtain ⟨b0, off, rfl, hbl, hcell⟩ := HA.out.2 (by omega)
            obtain ⟨x0, x1, x2, x3⟩ := hcell j hlt3
            obtain ⟨xx, hxx⟩ : ∃ z, a[j] = z := ⟨_, rfl⟩
            have HXO : Hid (in64 xx.t ∧ xx.o < 4294967296 ∧ xx.x.length ≤ maxLen ∧ in64 xx.n) := Lib.hid (by have := HAO.out a[j] (List.getElem_mem hlt3); rwa [hxx] at this)
            rw [hxx] at x0 x1 x2 x3
            clear hcell hxx
            obtain ⟨xt, xo, xn, xk⟩ := xx
            dsimp only at x0 x1 x2 x3 HXO
            have HX0 := Lib.hid x0
            have HX1 := Lib.hid x1
            have HX2 := Lib.hid x2
            have HX3 := Lib.hid x3
            clear x0 x1 x2 x3
            go_wp2_with fail
            with_reducible refine (sw_goods S_8.out).mono ?_
            rintro e w9 ⟨v9, rfl, hr, hs, hf⟩
            have S_9 := Lib.hid hs
            have R7_9 := Lib.hid (R7_8.out.below hf)
            have R9_9 := Lib.hid hr
            clear hs hf hr
            go_wp2_with fail
            with_reducible refine (sw_holds S_9.out (by have := HH.out; omega)).mono ?_
            rintro e w10 ⟨v10, rfl, hr, hs, hf⟩
            have S_10 := Lib.hid hs
            have R7_10 := Lib.hid (R7_9.out.below hf)
            have R9_10 := Lib.hid (R9_9.out.below hf)
            have R10_10 := Lib.hid hr
            clear hs hf hr
            have x0 := HX0.out
            have x1 := HX1.out
            have x2 := HX2.out
            have x3 := HX3.out
            rw [← S_10.out.bel.cell (p := ⟨b0, off + j * 4, none⟩) hbl] at x0
            rw [← S_10.out.bel.cell (p := ⟨b0, off + j * 4 + 1, none⟩) hbl] at x1
            rw [← S_10.out.bel.cell (p := ⟨b0, off + j * 4 + 2, none⟩) hbl] at x2
            rw [← S_10.out.bel.cell (p := ⟨b0, off + j * 4 + 3, none⟩) hbl] at x3
            go_wp2_with fail
            with_reducible refine (sw_act S_10.out xt xo xn xk HXO.out.2.1 HXO.out.2.2.1 HXO.out.2.2.2 (by have := HH.out; omega)).mono ?_
            rintro e w11 ⟨rfl, hs, hf⟩
            have S_11 := Lib.hid hs
            have R7_11 := Lib.hid (R7_10.out.frm hf)
            have R9_11 := Lib.hid (R9_10.out.frm hf)
            have R10_11 := Lib.hid (R10_10.out.frm hf)
            clear hs hf
            clear x0 x1 x2 x3
            have HNO : Hid (actV q ⟨xt, xo, xn, xk⟩ = false → actS q ⟨xt, xo, xn, xk⟩ = q) := Lib.hid actS_no
            have HH2 : Hid ((actS q ⟨xt, xo, xn, xk⟩).H.length ≤ j + 1) := Lib.hid (by have := (actS_len q ⟨xt, xo, xn, xk⟩).1; have := HH.out; omega)
            have HSUM2 : Hid (sumL (actS q ⟨xt, xo, xn, xk⟩) = goodsL K) := Lib.hid (by rw [sum_act S_10.out.inv]; exact HSUM.out)
            obtain ⟨q2, hq2⟩ : ∃ q2, actS q ⟨xt, xo, xn, xk⟩ = q2 := ⟨_, rfl⟩
            rw [hq2] at S_11 HNO HH2 HSUM2
            clear hq2
            obtain ⟨va, hva⟩ : ∃ v, actV q ⟨xt, xo, xn, xk⟩ = v := ⟨_, rfl⟩
            rw [hva] at HNO
            rw [hva]
            clear hva
            go_wp2_with fail
            with_reducible refine (sw_goods S_11.out).mono ?_
            rintro e w12 ⟨v12, rfl, hr, hs, hf⟩
            have S_12 := Lib.hid hs
            have R7_12 := Lib.hid (R7_11.out.below hf)
            have R9_12 := Lib.hid (R9_11.out.below hf)
            have R10_12 := Lib.hid (R10_11.out.below hf)
            have R12_12 := Lib.hid hr
            clear hs hf hr
            go_wp2_with fail
            with_reducible refine (sw_holds S_12.out (by have := HH2.out; omega)).mono ?_
            rintro e w13 ⟨v13, rfl, hr, hs, hf⟩
            have S_13 := Lib.hid hs
            have R7_13 := Lib.hid (R7_12.out.below hf)
            have R9_13 := Lib.hid (R9_12.out.below hf)
            have R10_13 := Lib.hid (R10_12.out.below hf)
            have R12_13 := Lib.hid (R12_12.out.below hf)
            have R13_13 := Lib.hid hr
            clear hs hf hr
            have hK2 : (goodsL q2.K).length = n := by rw [goods_len, sum_len HSUM2.out]; exact HLK.out
            have HK2 := Lib.hid hK2
            clear hK2
            obtain ⟨A12, c12, rfl, -, -⟩ := R12_13.out.gin
            obtain ⟨A13, c13, rfl, -, -⟩ := R13_13.out.hin
            rw [HK2.out] at R12_13
            rw [HK2.out]
            have hz3 : (q2.H.length : Int) ≤ 121 := by have := HH2.out; omega
            skip
            cases va
            · have hqq := HNO.out rfl
              have R9x := Lib.hid R9_13.out
              have R10x := Lib.hid R10_13.out
              rw [← hqq] at R9x R10x
              have HQQ := Lib.hid hqq
              clear hqq
              simp only [verd, Bool.false_eq_true, if_false]
              obtain ⟨B9, o9, -⟩ := R9x.out
              obtain ⟨B12, o12, -⟩ := R12_13.out
              obtain ⟨B10, o10, -⟩ := R10x.out
              obtain ⟨B13, o13, -⟩ := R13_13.out
              have O9 := Lib.hid o9
              have O12 := Lib.hid o12
              have O10 := Lib.hid o10
              have O13 := Lib.hid o13
              clear o9 o12 o10 o13
              go_wp2_with fail
              with_reducible refine (sameG_own _ _ _ _ _ _ O9.out O12.out (by rw [HK2.out]; omega)).mono ?_
              rintro e w14 ⟨rfl, hf⟩
              have S_14 := Lib.hid (S_13.out.below hf)
              have R7_14 := Lib.hid (R7_13.out.below hf)
              have R12_14 := Lib.hid (R12_13.out.below hf)
              have R13_14 := Lib.hid (R13_13.out.below hf)
              have P10 := Lib.hid (O10.out.below hf)
              have P13 := Lib.hid (O13.out.below hf)
              clear hf
              go_wp2_with fail
              with_reducible refine (sameH_own _ _ _ _ _ _ P10.out P13.out (by have := HH2.out; omega)).mono ?_
              rintro e w15 ⟨rfl, hf⟩
              have S_15 := Lib.hid (S_14.out.below hf)
              have R7_15 := Lib.hid (R7_14.out.below hf)
              have R12_15 := Lib.hid (R12_14.out.below hf)
              have R13_15 := Lib.hid (R13_14.out.below hf)
              clear hf
              go_wp2_with fail
              go_loopw [14] (fun i wr => SuI w K q2 b (.slice A7 n c7) (.slice A12 n c12) (.slice A13 q2.H.length c13) i wr) (fun i _ => n - (intOf i).toNat)
              case atStart => exact ⟨0, by omega, rfl, S_15.out, R7_15.out, R12_15.out, R13_15.out⟩
              case round =>
                clear S_15 R7_15 R12_15 R13_15
                obtain ⟨k, hk, rfl, hS, hR7, hR12, hR13⟩ := hrel
                have S_20 := Lib.hid hS
                have R7_20 := Lib.hid hR7
                have R12_20 := Lib.hid hR12
                have R13_20 := Lib.hid hR13
                clear hS hR7 hR12 hR13
                have hkn : k ≤ n := by have := HLK.out; omega
                by_cases hk1 : k < n
                · have hk2 : (k : Int) < (n : Int) := by omega
                  have hkq : k < q2.K.length := by have := HK2.out; rw [goods_len] at this; omega
                  obtain ⟨g12, o12, rfl, y0, y1⟩ := R12_20.out.at k (by rw [HK2.out]; exact hk1)
                  obtain ⟨g7, o7, rfl, z0, z1⟩ := R7_20.out.at k (by rw [HLK.out]; exact hk1)
                  rw [goods_at q2.K k hkq] at y0 y1
                  rw [sum_at S_20.out.inv HSUM2.out k hkq (by rw [HLK.out]; exact hk1)] at z0 z1
                  obtain ⟨y, hy⟩ : ∃ y, q2.K[k] = y := ⟨_, rfl⟩
                  have hyK : y ∈ q2.K := hy ▸ List.getElem_mem hkq
                  rw [hy] at y0 y1 z0 z1
                  dsimp only at y0 y1 z0 z1
                  have HYG := Lib.hid (goneN_at S_20.out.inv hyK)
                  have HYF := Lib.hid (S_20.out.inv.kf y hyK)
                  have HYL : Hid (y.n.length ≤ maxLen) := Lib.hid (by have := (S_20.out.inv.kl y hyK).2; unfold maxLen; omega)
                  have HHN := Lib.hid (held_nonneg (fun z hz => (S_20.out.inv.hh z hz).1) y.n)
                  have HTK := Lib.hid (fun i => held_take_le (fun z hz => (S_20.out.inv.hh z hz).1) y.n i)
                  have HCE : Hid (Cel4 g12 o12 g7 o7 k y (held q2.H y.n) wr) := Lib.hid ⟨y0, y1, z0, z1⟩
                  clear hy hyK
                  have C20 := Lib.hid (quiet_gone S_20.out y.n HYL.out)
                  rw [HYG.out] at C20
                  have ew : IntKind.i64.wrap (y.f + y.g) = y.f + y.g := IntWalk.i64_in _ (by have := HYF.out; have := HHN.out; omega)
                  clear z0 z1
                  go_wp2_with fail
                  go_quiet ((go_at_call 22; exact Calls.quiet_of_same (C20.out _)))
                  clear y0 y1
                  go_wp2_with fail
                  obtain ⟨y21, hy21⟩ : ∃ z, z = wr.drewN nq := ⟨_, rfl⟩
                  rw [← hy21]
                  have S_21 : Hid (SW w y21 b q2) := Lib.hid (by rw [hy21]; exact S_20.out.drewN _)
                  have R7_21 := Lib.hid (R7_20.out.drewN nq)
                  have R12_21 := Lib.hid (R12_20.out.drewN nq)
                  have R13_21 := Lib.hid (R13_20.out.drewN nq)
                  have HCE1 : Hid (Cel4 g12 o12 g7 o7 k y (held q2.H y.n) y21) := Lib.hid (by rw [hy21]; exact HCE.out)
                  rw [← hy21] at R7_21 R12_21 R13_21
                  clear hy21 ew C20 HCE S_20 R7_20 R12_20 R13_20
                  go_loopw [15, 16] (fun v15 v16 wr => SuJ w K q2 b (.slice (some ⟨g7, o7, none⟩) n c7) (.slice (some ⟨g12, o12, none⟩) n c12) (.slice A13 q2.H.length c13) g12 o12 g7 o7 k y v15 v16 wr) (fun _ i _ => q2.H.length - (intOf i).toNat)
                  case atStart => exact ⟨0, by omega, rfl, by simp [held], S_21.out, R7_21.out, R12_21.out, R13_21.out, HCE1.out⟩
                  case round =>
                    clear S_21 R7_21 R12_21 R13_21 HCE1
                    obtain ⟨i, hi, rfl, rfl, hS, hR7, hR12, hR13, hC⟩ := hrel
                    have S_22 := Lib.hid hS
                    have R7_22 := Lib.hid hR7
                    have R12_22 := Lib.hid hR12
                    have R13_22 := Lib.hid hR13
                    have HCE := Lib.hid hC
                    clear hS hR7 hR12 hR13 hC
                    obtain ⟨hf0, hg0, hfg⟩ := HYF.out
                    have hhn := HHN.out
                    have hti := HTK.out i
                    have HHI := Lib.hid hti
                    clear hti
                    by_cases hi1 : i < q2.H.length
                    · have hi2 : (i : Int) < (q2.H.length : Int) := by omega
                      obtain ⟨y0, y1, -, -⟩ := HCE.out
                      obtain ⟨g13, o13, rfl, t0, t1, t2⟩ := R13_22.out.at i hi1
                      obtain ⟨hh, hhh⟩ : ∃ z, q2.H[i] = z := ⟨_, rfl⟩
                      rw [hhh] at t0 t1 t2
                      have HST : Hid (held (q2.H.take (i + 1)) y.n = held (q2.H.take i) y.n + if hh.n == y.n then hh.k else 0) := Lib.hid (by rw [List.take_succ_eq_append_getElem hi1, held_snoc, hhh])
                      have HTS := Lib.hid (HTK.out (i + 1))
                      clear hhh
                      by_cases hnn : hh.n = y.n
                      · have hst2 : held (q2.H.take (i + 1)) y.n = held (q2.H.take i) y.n + hh.k := by rw [HST.out, if_pos (by simpa using hnn)]
                        have hb1 : 0 ≤ y.f + y.g + held (q2.H.take i) y.n + hh.k ∧ y.f + y.g + held (q2.H.take i) y.n + hh.k ≤ 1000000 := by have := HTS.out; omega
                        have HST2 := Lib.hid hst2
                        rw [hnn] at t1
                        clear hst2 HST hnn
                        obtain ⟨hb2, hb3⟩ := hb1
                        generalize held (q2.H.take i) y.n = hv at *
                        go_wp2_with fail
                        go_quiet (fail)
                        go_wp2
                        go_roundw
                        case rel => exact ⟨i + 1, by omega, by go_num, by rw [HST2.out]; go_num, S_22.out.drewN _, R7_22.out.drewN _, R12_22.out.drewN _, R13_22.out.drewN _, HCE.out⟩
                        case measure => simp [intOf]; omega
                      · have hst2 : held (q2.H.take (i + 1)) y.n = held (q2.H.take i) y.n := by rw [HST.out, if_neg (by simpa using hnn)]; omega
                        have HST2 := Lib.hid hst2
                        have e6 : (hh.n == y.n) = false := by simpa using hnn
                        have e7 : decide (hh.n = y.n) = false := by simpa using hnn
                        clear hst2 HST
                        go_wp2_with fail
                        go_quiet (fail)
                        go_wp2
                        go_roundw
                        case rel => exact ⟨i + 1, by omega, by go_num, by rw [HST2.out], S_22.out.drewN _, R7_22.out.drewN _, R12_22.out.drewN _, R13_22.out.drewN _, HCE.out⟩
                        case measure => simp [intOf]; omega
                    · have hi2 : decide ((i : Int) < (q2.H.length : Int)) = false := by simp; omega
                      have hii : i = q2.H.length := by omega
                      rw [show q2.H.take i = q2.H from by rw [hii, List.take_length]]
                      obtain ⟨y0, y1, z0, z1⟩ := HCE.out
                      have e0 : decide (y.f < 0) = false := by simp; omega
                      generalize held q2.H y.n = hv at *
                      clear hii
                      go_wp2_with fail
                      go_quiet (fail)
                      go_wp2
                      go_roundw
                      case rel => exact ⟨k + 1, by have := HLK.out; omega, by go_num, S_22.out.drewN _, R7_22.out.drewN _, R12_22.out.drewN _, R13_22.out.drewN _⟩
                      case measure => simp [intOf]; omega
                · have hk2 : decide ((k : Int) < (n : Int)) = false := by simp; omega
                  go_wp2
                  go_roundw
                  case rel => exact ⟨j + 1, q2, by omega, by omega, by go_num, S_20.out, by have := HH2.out; omega, HSUM2.out, R7_20.out⟩
                  case measure => simp [intOf]; omega
            · simp only [verd, if_true]
              go_wp2_with fail
              go_loopw [14] (fun i wr => SuI w K q2 b (.slice A7 n c7) (.slice A12 n c12) (.slice A13 q2.H.length c13) i wr) (fun i _ => n - (intOf i).toNat)
              case atStart => exact ⟨0, by omega, rfl, S_13.out, R7_13.out, R12_13.out, R13_13.out⟩
              case round =>
                clear S_13 R7_13 R12_13 R13_13
                obtain ⟨k, hk, rfl, hS, hR7, hR12, hR13⟩ := hrel
                have S_20 := Lib.hid hS
                have R7_20 := Lib.hid hR7
                have R12_20 := Lib.hid hR12
                have R13_20 := Lib.hid hR13
                clear hS hR7 hR12 hR13
                have hkn : k ≤ n := by have := HLK.out; omega
                by_cases hk1 : k < n
                · have hk2 : (k : Int) < (n : Int) := by omega
                  have hkq : k < q2.K.length := by have := HK2.out; rw [goods_len] at this; omega
                  obtain ⟨g12, o12, rfl, y0, y1⟩ := R12_20.out.at k (by rw [HK2.out]; exact hk1)
                  obtain ⟨g7, o7, rfl, z0, z1⟩ := R7_20.out.at k (by rw [HLK.out]; exact hk1)
                  rw [goods_at q2.K k hkq] at y0 y1
                  rw [sum_at S_20.out.inv HSUM2.out k hkq (by rw [HLK.out]; exact hk1)] at z0 z1
                  obtain ⟨y, hy⟩ : ∃ y, q2.K[k] = y := ⟨_, rfl⟩
                  have hyK : y ∈ q2.K := hy ▸ List.getElem_mem hkq
                  rw [hy] at y0 y1 z0 z1
                  dsimp only at y0 y1 z0 z1
                  have HYG := Lib.hid (goneN_at S_20.out.inv hyK)
                  have HYF := Lib.hid (S_20.out.inv.kf y hyK)
                  have HYL : Hid (y.n.length ≤ maxLen) := Lib.hid (by have := (S_20.out.inv.kl y hyK).2; unfold maxLen; omega)
                  have HHN := Lib.hid (held_nonneg (fun z hz => (S_20.out.inv.hh z hz).1) y.n)
                  have HTK := Lib.hid (fun i => held_take_le (fun z hz => (S_20.out.inv.hh z hz).1) y.n i)
                  have HCE : Hid (Cel4 g12 o12 g7 o7 k y (held q2.H y.n) wr) := Lib.hid ⟨y0, y1, z0, z1⟩
                  clear hy hyK
                  have C20 := Lib.hid (quiet_gone S_20.out y.n HYL.out)
                  rw [HYG.out] at C20
                  have ew : IntKind.i64.wrap (y.f + y.g) = y.f + y.g := IntWalk.i64_in _ (by have := HYF.out; have := HHN.out; omega)
                  clear z0 z1
                  go_wp2_with fail
                  go_quiet ((go_at_call 22; exact Calls.quiet_of_same (C20.out _)))
                  clear y0 y1
                  go_wp2_with fail
                  obtain ⟨y21, hy21⟩ : ∃ z, z = wr.drewN nq := ⟨_, rfl⟩
                  rw [← hy21]
                  have S_21 : Hid (SW w y21 b q2) := Lib.hid (by rw [hy21]; exact S_20.out.drewN _)
                  have R7_21 := Lib.hid (R7_20.out.drewN nq)
                  have R12_21 := Lib.hid (R12_20.out.drewN nq)
                  have R13_21 := Lib.hid (R13_20.out.drewN nq)
                  have HCE1 : Hid (Cel4 g12 o12 g7 o7 k y (held q2.H y.n) y21) := Lib.hid (by rw [hy21]; exact HCE.out)
                  rw [← hy21] at R7_21 R12_21 R13_21
                  clear hy21 ew C20 HCE S_20 R7_20 R12_20 R13_20
                  go_loopw [15, 16] (fun v15 v16 wr => SuJ w K q2 b (.slice (some ⟨g7, o7, none⟩) n c7) (.slice (some ⟨g12, o12, none⟩) n c12) (.slice A13 q2.H.length c13) g12 o12 g7 o7 k y v15 v16 wr) (fun _ i _ => q2.H.length - (intOf i).toNat)
                  case atStart => exact ⟨0, by omega, rfl, by simp [held], S_21.out, R7_21.out, R12_21.out, R13_21.out, HCE1.out⟩
                  case round =>
                    clear S_21 R7_21 R12_21 R13_21 HCE1
                    obtain ⟨i, hi, rfl, rfl, hS, hR7, hR12, hR13, hC⟩ := hrel
                    have S_22 := Lib.hid hS
                    have R7_22 := Lib.hid hR7
                    have R12_22 := Lib.hid hR12
                    have R13_22 := Lib.hid hR13
                    have HCE := Lib.hid hC
                    clear hS hR7 hR12 hR13 hC
                    obtain ⟨hf0, hg0, hfg⟩ := HYF.out
                    have hhn := HHN.out
                    have hti := HTK.out i
                    have HHI := Lib.hid hti
                    clear hti
                    by_cases hi1 : i < q2.H.length
                    · have hi2 : (i : Int) < (q2.H.length : Int) := by omega
                      obtain ⟨y0, y1, -, -⟩ := HCE.out
                      obtain ⟨g13, o13, rfl, t0, t1, t2⟩ := R13_22.out.at i hi1
                      obtain ⟨hh, hhh⟩ : ∃ z, q2.H[i] = z := ⟨_, rfl⟩
                      rw [hhh] at t0 t1 t2
                      have HST : Hid (held (q2.H.take (i + 1)) y.n = held (q2.H.take i) y.n + if hh.n == y.n then hh.k else 0) := Lib.hid (by rw [List.take_succ_eq_append_getElem hi1, held_snoc, hhh])
                      have HTS := Lib.hid (HTK.out (i + 1))
                      clear hhh
                      by_cases hnn : hh.n = y.n
                      · have hst2 : held (q2.H.take (i + 1)) y.n = held (q2.H.take i) y.n + hh.k := by rw [HST.out, if_pos (by simpa using hnn)]
                        have hb1 : 0 ≤ y.f + y.g + held (q2.H.take i) y.n + hh.k ∧ y.f + y.g + held (q2.H.take i) y.n + hh.k ≤ 1000000 := by have := HTS.out; omega
                        have HST2 := Lib.hid hst2
                        rw [hnn] at t1
                        clear hst2 HST hnn
                        obtain ⟨hb2, hb3⟩ := hb1
                        generalize held (q2.H.take i) y.n = hv at *
                        go_wp2_with fail
                        go_quiet (fail)
                        go_wp2
                        go_roundw
                        case rel => exact ⟨i + 1, by omega, by go_num, by rw [HST2.out]; go_num, S_22.out.drewN _, R7_22.out.drewN _, R12_22.out.drewN _, R13_22.out.drewN _, HCE.out⟩
                        case measure => simp [intOf]; omega
                      · have hst2 : held (q2.H.take (i + 1)) y.n = held (q2.H.take i) y.n := by rw [HST.out, if_neg (by simpa using hnn)]; omega
                        have HST2 := Lib.hid hst2
                        have e6 : (hh.n == y.n) = false := by simpa using hnn
                        have e7 : decide (hh.n = y.n) = false := by simpa using hnn
                        clear hst2 HST
                        go_wp2_with fail
                        go_quiet (fail)
                        go_wp2
                        go_roundw
                        case rel => exact ⟨i + 1, by omega, by go_num, by rw [HST2.out], S_22.out.drewN _, R7_22.out.drewN _, R12_22.out.drewN _, R13_22.out.drewN _, HCE.out⟩
                        case measure => simp [intOf]; omega
                    · have hi2 : decide ((i : Int) < (q2.H.length : Int)) = false := by simp; omega
                      have hii : i = q2.H.length := by omega
                      rw [show q2.H.take i = q2.H from by rw [hii, List.take_length]]
                      obtain ⟨y0, y1, z0, z1⟩ := HCE.out
                      have e0 : decide (y.f < 0) = false := by simp; omega
                      generalize held q2.H y.n = hv at *
                      clear hii
                      go_wp2_with fail
                      go_quiet (fail)
                      go_wp2
                      go_roundw
                      case rel => exact ⟨k + 1, by have := HLK.out; omega, by go_num, S_22.out.drewN _, R7_22.out.drewN _, R12_22.out.drewN _, R13_22.out.drewN _⟩
                      case measure => simp [intOf]; omega
                · have hk2 : decide ((k : Int) < (n : Int)) = false := by simp; omega
                  go_wp2
                  go_roundw
                  case rel => exact ⟨j + 1, q2, by omega, by omega, by go_num, S_20.out, by have := HH2.out; omega, HSUM2.out, R7_20.out⟩
                  case measure => simp [intOf]; omega
          · have e2 : decide ((j : Int) < 120) = false := by simp; omega
            go_wp2_with fail
            with_reducible refine (HK.out _).mono ?_
            rintro e w9 ⟨rfl, hb⟩
            have S_9 := Lib.hid (S_8.out.below hb)
            clear hb
            go_wp2
            go_ret
            exact ⟨rfl, S_9.out.bel⟩
        · have hnl : decide ((j : Int) < (m : Int)) = false := by simp; omega
          go_wp2_with fail
          with_reducible refine (HK.out _).mono ?_
          rintro e w9 ⟨rfl, hb⟩
          have S_9 := Lib.hid (S_8.out.below hb)
          clear hb
          go_wp2
          go_ret
          exact ⟨rfl, S_9.out.bel⟩

end Go.Proofs.Ytimoobhnhldgbaa
