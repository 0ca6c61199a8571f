/-
  The walk of PurseStates.
-/
import Derived.Test.YtlgdjmmhdfpfeaaLawB
namespace Go.Proofs.Ytlgdjmmhdfpfeaa
open Go.Proofs Go.RowKit
set_option maxRecDepth 100000
set_option linter.unusedVariables false
set_option linter.unusedSimpArgs false

def StT (w : World) (a : List Ac) (b : SB) (i : Value) (wr : World) : Prop := ∃ (j : Nat) (q : Ss), j ≤ a.length ∧ j ≤ 120 ∧ i = .int .i64 (j : Int) ∧ SW w wr b q ∧ q.H.length ≤ j
def StI (w : World) (q q2 : Ss) (κ : Nat → Nat) (χ : Nat → Int) (b : SB) (v8 v10 v11 v12 v13 : Value) (wr : World) : Prop := ∃ k : Nat, k ≤ q2.H.length ∧ v13 = .int .i64 (k : Int) ∧ v12 = .int .i64 (κ k : Int) ∧ v11 = .int .i64 (χ k) ∧ SW w wr b q2 ∧ RH wr b v8 q.H ∧ RH wr b v10 q2.H
def Cel (w : World) (g o k : Nat) (y : Hd) : Prop := w.cell? ⟨g, o + k * 4, none⟩ = some (.int .u32 (y.o : Int)) ∧ w.cell? ⟨g, o + k * 4 + 1, none⟩ = some (encStr y.n) ∧ w.cell? ⟨g, o + k * 4 + 2, none⟩ = some (.int .i64 y.k) ∧ w.cell? ⟨g, o + k * 4 + 3, none⟩ = some (.int .i64 (y.t : Int))
theorem Cel.drewN {w : World} {g o k : Nat} {y : Hd} (h : Cel w g o k y) (n : Nat) : Cel (w.drewN n) g o k y := h
theorem Cel.alloc {w : World} {g o k : Nat} {y : Hd} (h : Cel w g o k y) (x : Obj) (hl : g < w.heap.size) : Cel (w.alloc x) g o k y := by
  obtain ⟨h0, h1, h2, h3⟩ := h
  exact ⟨by rw [(below1 w x).cell (p := ⟨g, o + k * 4, none⟩) hl]; exact h0, by rw [(below1 w x).cell (p := ⟨g, o + k * 4 + 1, none⟩) hl]; exact h1, by rw [(below1 w x).cell (p := ⟨g, o + k * 4 + 2, none⟩) hl]; exact h2, by rw [(below1 w x).cell (p := ⟨g, o + k * 4 + 3, none⟩) hl]; exact h3⟩
theorem cells_new {w : World} {nq : Nat} {o : Obj} {p : Addr} {v : Value} (h : w.cell? p = some v) (hl : p.block < w.heap.size) : ((w.drewN nq).alloc o).cell? p = some v := by
  rw [(below1 (w.drewN nq) o).cell hl]; exact h

set_option maxHeartbeats 16000000 in
theorem purseStates_walk (A : Option Addr) (n c : Nat) (l : List Kd) (B : Option Addr) (m d : Nat) (a : List Ac)  (w : World) (hG : Gin w A n l) (hn : n ≤ maxLen) (hL : GoodsOk l) (hA : Ain w B m a) (hm : m ≤ maxLen) (hAO : ActsOk a) 
    (KN : ∀ W, Calls Try.prog 10 #[] W fun e w' => e = .returned (.bool true) ∧ Below W.heap.size W w') :
    Calls Try.prog 5 #[.slice A n c, .slice B m d] w fun e w' => e = .returned (.bool true) ∧ Below w.heap.size w w' := by
  have HG := Lib.hid hG
  have HA := Lib.hid hA
  have HL := Lib.hid hL
  have HAO := Lib.hid hAO
  have HN := Lib.hid hG.1
  have HM := Lib.hid hA.1
  have HK := Lib.hid KN
  have HC := Lib.hid (long_any A n c l B m d a w hG hA hm hn)
  have hmm : (m : Int) ≤ 9223372036854775807 := by unfold maxLen at hm; omega
  clear hG hA hL hAO KN hm
  go_enter Try.func5, Try.ntmps5
  go_wp2_with fail
  with_reducible refine HC.out.mono ?_
  rintro e w1 ⟨rfl, rfl | ⟨rfl, hs⟩⟩
  · go_wp2_with fail
    with_reducible refine (HK.out _).mono ?_
    rintro e w2 ⟨rfl, hb⟩
    have HB := Lib.hid hb
    clear hb
    go_wp2
    go_ret
    exact ⟨rfl, HB.out⟩
  · have HS := Lib.hid hs
    have hn2 : n ≤ 200 := by have := hs.1; have := HN.out; omega
    clear hs HC hn
    go_wp2_with fail
    with_reducible refine (sw_new (Below.refl _ _) A n c l HG.out (by omega) HS.out.names).mono ?_
    rintro e w1 ⟨hb, ⟨h1, rfl⟩ | ⟨K, b, h1, rfl, hs, -⟩⟩
    · have HB := Lib.hid hb
      clear hb h1
      go_wp2_with fail
      with_reducible refine (HK.out _).mono ?_
      rintro e w2 ⟨rfl, hb⟩
      have HB2 := Lib.hid (HB.out.trans (hb.mono HB.out.size))
      clear hb
      go_wp2
      go_ret
      exact ⟨rfl, HB2.out⟩
    · have S_1 := Lib.hid hs
      have HNO := Lib.hid h1
      have HNW := Lib.hid (newOf_some h1).2.2
      clear hb h1 hs
      go_wp2_with fail
      go_loopw [7] (fun i wr => StT w a b i wr) (fun i _ => 121 - (intOf i).toNat)
      case atStart => exact ⟨0, ⟨K, []⟩, by omega, by omega, rfl, S_1.out, Nat.le_refl _⟩
      case round =>
        clear S_1
        obtain ⟨j, q, hj, hj2, rfl, hS, hH⟩ := hrel
        have S_2 := Lib.hid hS
        have HH := Lib.hid hH
        clear hS hH
        have hjm : j ≤ m := by have := HM.out; omega
        by_cases hlt : j < m
        · have hlt2 : (j : Int) < (m : Int) := by omega
          by_cases hq3 : j < 120
          · have e2 : decide ((j : Int) < 120) = true := by simp; omega
            have hlt3 : j < a.length := by have := HM.out; omega
            obtain ⟨b0, off, rfl, hbl, hcell⟩ := HA.out.2 (by omega)
            obtain ⟨xx, hxx⟩ : ∃ q, a[j] = q := ⟨_, rfl⟩
            have hcj := hcell j hlt3
            rw [hxx] at hcj
            have HXO := Lib.hid (HAO.out a[j] (List.getElem_mem hlt3))
            rw [hxx] at HXO
            have HCJ := Lib.hid (And.intro hcj hbl)
            clear hcell hxx hcj hbl
            obtain ⟨xt, xo, xn, xk⟩ := xx
            dsimp only at HXO HCJ
            go_wp2_with fail
            with_reducible refine (sw_holds S_2.out (by have := HH.out; omega)).mono ?_
            rintro e w3 ⟨v3, rfl, hr, hs, hf⟩
            have S_3 := Lib.hid hs
            have R8_3 := Lib.hid hr
            clear hs hf hr
            obtain ⟨⟨x0, x1, x2, x3⟩, hbl⟩ := HCJ.out
            rw [← S_3.out.bel.cell (p := ⟨b0, off + j * 4, none⟩) hbl] at x0
            rw [← S_3.out.bel.cell (p := ⟨b0, off + j * 4 + 1, none⟩) hbl] at x1
            rw [← S_3.out.bel.cell (p := ⟨b0, off + j * 4 + 2, none⟩) hbl] at x2
            rw [← S_3.out.bel.cell (p := ⟨b0, off + j * 4 + 3, none⟩) hbl] at x3
            clear hbl
            go_wp2_with fail
            with_reducible refine (sw_act S_3.out xt xo xn xk HXO.out.2.1 HXO.out.2.2.1 HXO.out.2.2.2 (by have := HH.out; omega)).mono ?_
            rintro e w4 ⟨rfl, hs, hf⟩
            have S_4 := Lib.hid hs
            have R8_4 := Lib.hid (R8_3.out.frm hf)
            clear hs hf
            clear x0 x1 x2 x3
            have HH2 : Hid ((actS q ⟨xt, xo, xn, xk⟩).H.length ≤ j + 1) := Lib.hid (by have := (actS_len q ⟨xt, xo, xn, xk⟩).1; have := HH.out; omega)
            obtain ⟨κ, χ, hst⟩ := stp_act S_3.out.inv ⟨xt, xo, xn, xk⟩
            obtain ⟨q2, hq2⟩ : ∃ q2, actS q ⟨xt, xo, xn, xk⟩ = q2 := ⟨_, rfl⟩
            rw [hq2] at S_4 HH2 hst
            clear hq2
            obtain ⟨va, hva⟩ : ∃ v, actV q ⟨xt, xo, xn, xk⟩ = v := ⟨_, rfl⟩
            rw [hva] at hst ⊢
            have HST := Lib.hid hst
            clear hva hst
            go_wp2_with fail
            with_reducible refine (sw_holds S_4.out (by have := HH2.out; omega)).mono ?_
            rintro e w5 ⟨v5, rfl, hr, hs, hf⟩
            have S_5 := Lib.hid hs
            have R8_5 := Lib.hid (R8_4.out.below hf)
            have R10_5 := Lib.hid hr
            clear hs hf hr
            obtain ⟨A8, c8, rfl, -, -⟩ := R8_5.out.hin
            obtain ⟨A10, c10, rfl, -, -⟩ := R10_5.out.hin
            have hz1 : (q.H.length : Int) ≤ 120 := by have := HH.out; omega
            have hz2 : (q2.H.length : Int) ≤ 121 := by have := HH2.out; omega
            have ew : IntKind.i64.wrap ((q2.H.length : Int) - (q.H.length : Int)) = χ 0 := by rw [HST.out.c0]; exact IntWalk.i64_in _ (by omega)
            go_wp2_with fail
            clear ew
            go_loopw [11, 12, 13] (fun v11 v12 v13 wr => StI w q q2 κ χ b (.slice A8 q.H.length c8) (.slice A10 q2.H.length c10) v11 v12 v13 wr) (fun _ _ i _ => q2.H.length - (intOf i).toNat)
            case atStart => exact ⟨0, by omega, rfl, by rw [HST.out.k0]; rfl, rfl, S_5.out, R8_5.out, R10_5.out⟩
            case round =>
              clear S_5 R8_5 R10_5
              obtain ⟨k, hk, rfl, rfl, rfl, hS, hR8, hR10⟩ := hrel
              have S_6 := Lib.hid hS
              have R8_6 := Lib.hid hR8
              have R10_6 := Lib.hid hR10
              clear hS hR8 hR10
              obtain ⟨cb1, cb2⟩ := HST.out.cb k
              by_cases hk1 : k < q2.H.length
              · have hk2 : (k : Int) < (q2.H.length : Int) := by omega
                obtain ⟨g10, o10, hA10, hl10, u0, u1, u2, u3⟩ := R10_6.out.at k hk1
                subst hA10
                rcases HST.out.step k hk1 with ⟨hkl, e1, e2, e3, e4, e5, e6, e7⟩ | ⟨hno, e1, e6, e7⟩
                · obtain ⟨g8, o8, hA8, hl8, p0, p1, p2, p3⟩ := R8_6.out.at (κ k) hkl
                  subst hA8
                  obtain ⟨⟨yo, yn, yk, yt⟩, hy⟩ : ∃ y, q.H[κ k] = y := ⟨_, rfl⟩
                  obtain ⟨⟨zo, zn, zk, zt⟩, hz⟩ : ∃ y, q2.H[k] = y := ⟨_, rfl⟩
                  rw [hy] at p0 p1 p2 p3 e1 e2 e3 e4 e7
                  rw [hz] at u0 u1 u2 u3 e1 e2 e3 e4 e5 e7
                  clear hy hz
                  dsimp only at p0 p1 p2 p3 u0 u1 u2 u3 e1 e2 e3 e4 e5 e7
                  subst e1 e2 e3
                  obtain ⟨kv, hkv⟩ : ∃ x, κ k = x := ⟨_, rfl⟩
                  obtain ⟨cv, hcv⟩ : ∃ x, χ k = x := ⟨_, rfl⟩
                  rw [hkv] at p0 p1 p2 p3 e6 hkl ⊢
                  rw [hcv] at e7 cb1 cb2 ⊢
                  have HE := Lib.hid (And.intro e6 e7)
                  clear e6 e7 hkv hcv
                  have hkl2 : (kv : Int) < (q.H.length : Int) := by omega
                  have hkv2 : (kv : Int) ≤ 121 := by omega
                  have HP : Hid (Cel wr g8 o8 kv ⟨yo, yn, yk, yt⟩) := Lib.hid ⟨p0, p1, p2, p3⟩
                  have HU : Hid (Cel wr g10 o10 k ⟨yo, yn, yk, zt⟩) := Lib.hid ⟨u0, u1, u2, u3⟩
                  go_wp2_with fail
                  go_quiet (fail)
                  clear p0 p1 p2 p3 u0 u1 u2 u3
                  obtain ⟨W1, hW1⟩ : ∃ W, W = wr.drewN nq := ⟨_, rfl⟩
                  rw [← hW1]
                  have S_7a : Hid (SW w W1 b q2) := Lib.hid (by rw [hW1]; exact S_6.out.drewN _)
                  have R8_7a : Hid (RH W1 b (.slice (some ⟨g8, o8, none⟩) q.H.length c8) q.H) := Lib.hid (by rw [hW1]; exact R8_6.out.drewN _)
                  have R10_7a : Hid (RH W1 b (.slice (some ⟨g10, o10, none⟩) q2.H.length c10) q2.H) := Lib.hid (by rw [hW1]; exact R10_6.out.drewN _)
                  have HP1 : Hid (Cel W1 g8 o8 kv ⟨yo, yn, yk, yt⟩) := Lib.hid (by rw [hW1]; exact HP.out.drewN _)
                  have HU1 : Hid (Cel W1 g10 o10 k ⟨yo, yn, yk, zt⟩) := Lib.hid (by rw [hW1]; exact HU.out.drewN _)
                  have hl8' : g8 < W1.heap.size := by rw [hW1]; exact hl8
                  have hl10' : g10 < W1.heap.size := by rw [hW1]; exact hl10
                  clear hW1 HP HU S_6 R8_6 R10_6 hl8 hl10
                  obtain ⟨p0, p1, p2, p3⟩ := HP1.out
                  obtain ⟨u0, u1, u2, u3⟩ := HU1.out
                  dsimp only at p0 p1 p2 p3 u0 u1 u2 u3
                  have p3' := (HP1.out.alloc (.cells #[.int .u32 (yo : Int), encStr yn, .int .i64 yk, .int .i64 (zt : Int)] 48) hl8').2.2.2
                  dsimp only at p3'
                  go_wp2_with fail
                  obtain ⟨W2, hW2⟩ : ∃ W, W = W1.alloc (.cells #[.int .u32 (yo : Int), encStr yn, .int .i64 yk, .int .i64 (yt : Int)] 48) := ⟨_, rfl⟩
                  rw [← hW2]
                  have S_7 : Hid (SW w W2 b q2) := Lib.hid (by rw [hW2]; exact S_7a.out.alloc _)
                  have R8_7 : Hid (RH W2 b (.slice (some ⟨g8, o8, none⟩) q.H.length c8) q.H) := Lib.hid (by rw [hW2]; exact R8_7a.out.below (below1 _ _))
                  have R10_7 : Hid (RH W2 b (.slice (some ⟨g10, o10, none⟩) q2.H.length c10) q2.H) := Lib.hid (by rw [hW2]; exact R10_7a.out.below (below1 _ _))
                  have L_7 : Hid (Lies W2 W1.heap.size 48 #[.int .u32 (yo : Int), encStr yn, .int .i64 yk, .int .i64 (yt : Int)]) := Lib.hid (by rw [hW2]; exact Lies.made W1 _ _)
                  clear p0 p1 p2 p3 u0 u1 u2 u3 p3'
                  have HP2 : Hid (Cel W2 g8 o8 kv ⟨yo, yn, yk, yt⟩) := Lib.hid (by rw [hW2]; exact HP1.out.alloc _ hl8')
                  have HU2 : Hid (Cel W2 g10 o10 k ⟨yo, yn, yk, zt⟩) := Lib.hid (by rw [hW2]; exact HU1.out.alloc _ hl10')
                  obtain ⟨p0, p1, p2, p3⟩ := HP2.out
                  obtain ⟨u0, u1, u2, u3⟩ := HU2.out
                  dsimp only at p0 p1 p2 p3 u0 u1 u2 u3
                  clear HP1 HU1 S_7a R8_7a R10_7a HP2 HU2
                  clear hW2
                  obtain ⟨q0, q1, q2x, q3⟩ := L_7.out.cells4
                  have hgd := guard48
                  have hne : ∀ W, _ := fun W => run_neq48 ⟨yo, yn, yk, yt⟩ ⟨yo, yn, yk, yt⟩ W
                  simp only [decide_true, Bool.not_true] at hne
                  have f1 : decide ((zt : Int) < (yt : Int)) = false := by simp; omega
                  have f2 : decide ((3 : Int) < (zt : Int)) = false := by simp; omega
                  go_quiet (fail)
                  clear hne f1 f2 q0 q1 q2x q3
                  by_cases htt : zt = yt
                  · have HC : Hid (χ (k + 1) = cv) := Lib.hid (by rw [HE.out.2, if_pos htt]; omega)
                    subst htt
                    have hne : ∀ W, _ := fun W => run_neq48 ⟨yo, yn, yk, zt⟩ ⟨yo, yn, yk, zt⟩ W
                    simp only [decide_true, Bool.not_true] at hne
                    go_wp2_with fail
                    go_quiet (fail)
                    clear hne hgd p0 p1 p2 p3 u0 u1 u2 u3
                    go_wp2
                    go_roundw
                    case rel => exact ⟨k + 1, by omega, by go_num, by rw [HE.out.1]; go_num, by rw [HC.out], S_7.out.drewN _, R8_7.out.drewN _, R10_7.out.drewN _⟩
                    case measure => simp [intOf]; omega
                  · have HC : Hid (χ (k + 1) = cv + 1) := Lib.hid (by rw [HE.out.2, if_neg htt])
                    have hne : ∀ W, _ := fun W => run_neq48 ⟨yo, yn, yk, zt⟩ ⟨yo, yn, yk, yt⟩ W
                    have hd : decide ((⟨yo, yn, yk, zt⟩ : Hd) = ⟨yo, yn, yk, yt⟩) = false := by simp [htt]
                    rw [hd] at hne
                    simp only [Bool.not_false] at hne
                    clear hd htt
                    go_wp2_with fail
                    go_quiet (fail)
                    clear hne hgd p0 p1 p2 p3 u0 u1 u2 u3
                    go_wp2
                    go_roundw
                    case rel => exact ⟨k + 1, by omega, by go_num, by rw [HE.out.1]; go_num, by rw [HC.out], S_7.out.drewN _, R8_7.out.drewN _, R10_7.out.drewN _⟩
                    case measure => simp [intOf]; omega
                · rw [e1] at u0 u1 u2 u3
                  dsimp only at u0 u1 u2 u3
                  have hkb := HST.out.kl k (by omega)
                  have hkb2 : (κ k : Int) ≤ 121 := by omega
                  obtain ⟨kv, hkv⟩ : ∃ x, κ k = x := ⟨_, rfl⟩
                  obtain ⟨cv, hcv⟩ : ∃ x, χ k = x := ⟨_, rfl⟩
                  have HKV := Lib.hid hkv
                  rw [hkv] at e6 hkb hkb2 ⊢
                  rw [hcv] at e7 cb1 cb2 ⊢
                  have HE := Lib.hid (And.intro e6 e7)
                  have HZ := Lib.hid e1
                  obtain ⟨⟨x0, x1, x2, x3⟩, hbl⟩ := HCJ.out
                  rw [← S_6.out.bel.cell (p := ⟨b0, off + j * 4, none⟩) hbl] at x0
                  rw [← S_6.out.bel.cell (p := ⟨b0, off + j * 4 + 1, none⟩) hbl] at x1
                  rw [← S_6.out.bel.cell (p := ⟨b0, off + j * 4 + 2, none⟩) hbl] at x2
                  rw [← S_6.out.bel.cell (p := ⟨b0, off + j * 4 + 3, none⟩) hbl] at x3
                  clear hbl
                  by_cases hkl : κ k < q.H.length
                  · have hne0 := hno hkl
                    rw [e1] at hne0
                    obtain ⟨g8, o8, hA8, hl8, p0, -⟩ := R8_6.out.at (κ k) hkl
                    subst hA8
                    obtain ⟨yo, hyo⟩ : ∃ y, q.H[κ k].o = y := ⟨_, rfl⟩
                    rw [hyo] at p0 hne0
                    rw [hkv] at p0 hkl
                    dsimp only at hne0
                    have hkl2 : (kv : Int) < (q.H.length : Int) := by omega
                    have hq : (((yo : Int) == (xo : Int)) : Bool) = false := beq_eq_false_iff_ne.2 (by omega)
                    clear e1 e6 e7 hno hyo hkv hcv hne0
                    go_wp2_with fail
                    go_quiet (fail)
                    go_wp2_with fail
                    go_quiet (fail)
                    clear u0 u1 u2 u3 x0 x1 x2 x3
                    go_wp2
                    go_roundw
                    case rel => exact ⟨k + 1, by omega, by go_num, by rw [HE.out.1], by rw [HE.out.2], S_6.out.drewN _, R8_6.out.drewN _, R10_6.out.drewN _⟩
                    case measure => simp [intOf]; omega
                  · obtain rfl : kv = q.H.length := by omega
                    clear e1 e6 e7 hno hkv hcv hkl
                    go_wp2_with fail
                    go_quiet (fail)
                    go_wp2_with fail
                    go_quiet (fail)
                    clear u0 u1 u2 u3 x0 x1 x2 x3
                    go_wp2
                    go_roundw
                    case rel => exact ⟨k + 1, by omega, by go_num, by rw [HE.out.1], by rw [HE.out.2], S_6.out.drewN _, R8_6.out.drewN _, R10_6.out.drewN _⟩
                    case measure => simp [intOf]; omega
              · have hk2 : decide ((k : Int) < (q2.H.length : Int)) = false := by simp; omega
                have hkk : k = q2.H.length := by omega
                have hkn : κ k = q.H.length := by rw [hkk]; exact HST.out.kn
                have hcn : χ k = if va then 1 else 0 := by rw [hkk]; exact HST.out.cn
                rw [hkn, hcn]
                clear hkn hcn cb1 cb2 hkk
                cases va
                · simp only [verd, Bool.false_eq_true, if_false]
                  go_wp2
                  go_roundw
                  case rel => exact ⟨j + 1, q2, by omega, by omega, by go_num, S_6.out, HH2.out⟩
                  case measure => simp [intOf]; omega
                · simp only [verd, if_true]
                  go_wp2
                  go_roundw
                  case rel => exact ⟨j + 1, q2, by omega, by omega, by go_num, S_6.out, HH2.out⟩
                  case measure => simp [intOf]; omega
          · have e2 : decide ((j : Int) < 120) = false := by simp; omega
            go_wp2_with fail
            with_reducible refine (HK.out _).mono ?_
            rintro e w3 ⟨rfl, hb⟩
            have S_3 := Lib.hid (S_2.out.below hb)
            clear hb
            go_wp2
            go_ret
            exact ⟨rfl, S_3.out.bel⟩
        · have hnl : decide ((j : Int) < (m : Int)) = false := by simp; omega
          go_wp2_with fail
          with_reducible refine (HK.out _).mono ?_
          rintro e w3 ⟨rfl, hb⟩
          have S_3 := Lib.hid (S_2.out.below hb)
          clear hb
          go_wp2
          go_ret
          exact ⟨rfl, S_3.out.bel⟩

end Go.Proofs.Ytlgdjmmhdfpfeaa
