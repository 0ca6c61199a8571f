/-
  The walk of PurseWays.
-/
import Derived.Test.YtlgdjmmhdfpfeaaLawB
namespace Go.Proofs.Ytlgdjmmhdfpfeaa
open Go.Proofs Go.RowKit
set_option maxRecDepth 100000
set_option linter.unusedVariables false
set_option linter.unusedSimpArgs false

/-- All that PurseWays asks of an order that was authorised. -/
structure WayF (q q1 : Ss) (o : Nat) (x : List UInt8) (n : Int) : Prop where
  a : authV q1 o x n = false
  r : movV q1 o 2 = false
  t : tot q1.H 2 = tot q.H 2
  c : movV q1 o 0 = true
  v : movV q1 o 1 = true
  ct : tot (movS q1 o 0).H 2 = tot q.H 2 + n
  c0 : movV (movS q1 o 0) o 0 = false
  c1 : movV (movS q1 o 0) o 1 = false
  c2 : movV (movS q1 o 0) o 2 = true
  l1 : q1.H.length ≤ 100
  l2 : (movS q1 o 0).H.length ≤ 100
/-- .. when its way is over. -/
structure OvrF (q q3 : Ss) (o : Nat) (x : List UInt8) (n : Int) : Prop where
  k : q3.K = q.K
  t : tot q3.H 2 = tot q.H 2
  c0 : movV q3 o 0 = false
  c1 : movV q3 o 1 = false
  c2 : movV q3 o 2 = false
  a : authV q3 o x n = false
  l : q3.H.length ≤ 100
theorem wayF {q : Ss} (hI : Inv q) {o : Nat} (ho : o < 4294967296) {x : List UInt8} {n : Int} (hv : authV q o x n = true) (hl : q.H.length ≤ 60) : WayF q (authS q o x n) o x n := by
  obtain ⟨a1, a2, a3, a4, a5⟩ := way_auth hI ho hv
  obtain ⟨b1, b2, b3, b4⟩ := way_capt hI ho hv
  have l1 := (authS_len q o x n).1
  have l2 := (movS_len (authS q o x n) o 0).1
  exact ⟨a1, a2, a5, a3, a4, b1, b2, b3, b4, by omega, by omega⟩
theorem ovr_void {q : Ss} (hI : Inv q) {o : Nat} (ho : o < 4294967296) {x : List UInt8} {n : Int} (hv : authV q o x n = true) (hl : q.H.length ≤ 60) : OvrF q (movS (authS q o x n) o 1) o x n := by
  obtain ⟨a1, a2, y, a3, a4⟩ := way_void hI ho hv
  obtain ⟨b1, b2, b3, b4⟩ := over_of a3 a4 x n
  have l1 := (authS_len q o x n).1
  have l2 := (movS_len (authS q o x n) o 1).1
  exact ⟨a1, a2, b1, b2, b3, b4, by omega⟩
theorem ovr_back {q : Ss} (hI : Inv q) {o : Nat} (ho : o < 4294967296) {x : List UInt8} {n : Int} (hv : authV q o x n = true) (hl : q.H.length ≤ 60) : OvrF q (movS (movS (authS q o x n) o 0) o 2) o x n := by
  obtain ⟨a1, a2, y, a3, a4⟩ := way_back hI ho hv
  obtain ⟨b1, b2, b3, b4⟩ := over_of a3 a4 x n
  have l1 := (authS_len q o x n).1
  have l2 := (movS_len (authS q o x n) o 0).1
  have l3 := (movS_len (movS (authS q o x n) o 0) o 2).1
  exact ⟨a1, a2, b1, b2, b3, b4, by omega⟩

set_option maxHeartbeats 16000000 in
theorem purseWays_walk (A : Option Addr) (n c : Nat) (l : List Kd) (B : Option Addr) (m d : Nat) (a : List Ac) (o : Nat) (x : List UInt8) (nn : Int) (cp : Bool) (w : World) (hG : Gin w A n l) (hn : n ≤ maxLen) (hL : GoodsOk l) (hA : Ain w B m a) (hm : m ≤ maxLen) (hAO : ActsOk a) (ho : o < 4294967296) (hx : x.length ≤ maxLen) (hnn : in64 nn)
    (KN : ∀ W, Calls Try.prog 10 #[] W fun e w' => e = .returned (.bool true) ∧ Below W.heap.size W w') :
    Calls Try.prog 6 #[.slice A n c, .slice B m d, .int .u32 (o : Int), encStr x, .int .i64 nn, .bool cp] w fun e w' => e = .returned (.bool true) ∧ Below w.heap.size w w' := by
  have HG := Lib.hid hG
  have HA := Lib.hid hA
  have HL := Lib.hid hL
  have HAO := Lib.hid hAO
  have HN := Lib.hid hG.1
  have HM := Lib.hid hA.1
  have HK := Lib.hid KN
  have HC := Lib.hid (long_any A n c l B m d a w hG hA hm hn)
  have hmm : (m : Int) ≤ 9223372036854775807 := by unfold maxLen at hm; omega
  clear hG hA hL hAO KN hm
  go_enter Try.func6, Try.ntmps6
  go_wp2_with fail
  with_reducible refine HC.out.mono ?_
  rintro e w1 ⟨rfl, rfl | ⟨rfl, hs⟩⟩
  · go_wp2_with fail
    with_reducible refine (HK.out _).mono ?_
    rintro e w2 ⟨rfl, hb⟩
    have HB := Lib.hid hb
    clear hb
    go_wp2
    go_ret
    exact ⟨rfl, HB.out⟩
  · have HS := Lib.hid hs
    have hn2 : n ≤ 200 := by have := hs.1; have := HN.out; omega
    clear hs HC hn
    obtain ⟨bz, hbz⟩ : ∃ bz, decide ((1000 : Int) < (x.length : Int)) = bz := ⟨_, rfl⟩
    cases bz
    rotate_left
    · go_wp2_with fail
      with_reducible refine (HK.out _).mono ?_
      rintro e w2 ⟨rfl, hb⟩
      have HB := Lib.hid hb
      clear hb
      go_wp2
      go_ret
      exact ⟨rfl, HB.out⟩
    go_wp2_with fail
    with_reducible refine (sw_new (Below.refl _ _) A n c l HG.out (by omega) HS.out.names).mono ?_
    rintro e w1 ⟨hb, ⟨h1, rfl⟩ | ⟨K, b, h1, rfl, hs, -⟩⟩
    · have HB := Lib.hid hb
      clear hb h1
      go_wp2_with fail
      with_reducible refine (HK.out _).mono ?_
      rintro e w2 ⟨rfl, hb⟩
      have HB2 := Lib.hid (HB.out.trans (hb.mono HB.out.size))
      clear hb
      go_wp2
      go_ret
      exact ⟨rfl, HB2.out⟩
    · have S_1 := Lib.hid hs
      have HNO := Lib.hid h1
      have HNW := Lib.hid (newOf_some h1).2.2
      clear hb h1 hs
      have HKN : Hid (K.length = n) := Lib.hid (HNW.out.len.trans HN.out)
      go_upto_block 0 with (fail)
      go_cut [15] (fun s15 W => AcE 60 n w b W)
      case first =>
        go_wp2_with fail
        go_loopw [15] (fun i wr => AcR 60 n w a b i wr) (fun i _ => 61 - (intOf i).toNat)
        case atStart => exact ⟨0, ⟨K, []⟩, by omega, by omega, rfl, S_1.out, Nat.le_refl _, HKN.out⟩
        case round =>
          clear S_1
          obtain ⟨j, q, hj, hj2, rfl, hS, hH, hKL⟩ := hrel
          have S_2 := Lib.hid hS
          have HH := Lib.hid hH
          have HKL := Lib.hid hKL
          clear hS hH hKL
          have hjm : j ≤ m := by have := HM.out; omega
          by_cases hlt : j < m
          · have hlt2 : (j : Int) < (m : Int) := by omega
            by_cases hq3 : j < 60
            · have e2 : decide ((j : Int) < 60) = true := by simp; omega
              have hlt3 : j < a.length := by have := HM.out; omega
              obtain ⟨b0, off, rfl, hbl, hcell⟩ := HA.out.2 (by omega)
              obtain ⟨xx, hxx⟩ : ∃ q, a[j] = q := ⟨_, rfl⟩
              have hcj := hcell j hlt3
              rw [hxx] at hcj
              have HXO := Lib.hid (HAO.out a[j] (List.getElem_mem hlt3))
              rw [hxx] at HXO
              have HCJ := Lib.hid (And.intro hcj hbl)
              clear hcell hxx hcj hbl
              obtain ⟨xt, xo, xn, xk⟩ := xx
              dsimp only at HXO HCJ
              obtain ⟨⟨x0, x1, x2, x3⟩, hbl⟩ := HCJ.out
              rw [← S_2.out.bel.cell (p := ⟨b0, off + j * 4, none⟩) hbl] at x0
              rw [← S_2.out.bel.cell (p := ⟨b0, off + j * 4 + 1, none⟩) hbl] at x1
              rw [← S_2.out.bel.cell (p := ⟨b0, off + j * 4 + 2, none⟩) hbl] at x2
              rw [← S_2.out.bel.cell (p := ⟨b0, off + j * 4 + 3, none⟩) hbl] at x3
              clear hbl
              go_wp2_with fail
              with_reducible refine (sw_act S_2.out xt xo xn xk HXO.out.2.1 HXO.out.2.2.1 HXO.out.2.2.2 (by have := HH.out; omega)).mono ?_
              rintro e w3 ⟨rfl, hs, hf⟩
              have S_3 := Lib.hid hs
              clear hs hf x0 x1 x2 x3
              have HH2 := Lib.hid (actS_len q ⟨xt, xo, xn, xk⟩).1
              have HK2 := Lib.hid ((act_len ⟨xt, xo, xn, xk⟩).trans HKL.out)
              go_wp2
              go_roundw
              case rel => exact ⟨j + 1, _, by omega, by omega, by go_num, S_3.out, by have := HH.out; have := HH2.out; omega, HK2.out⟩
              case measure => simp [intOf]; omega
            · have e2 : decide ((j : Int) < 60) = false := by simp; omega
              go_wp2
              go_meet
              exact ⟨q, S_2.out, by have := HH.out; omega, HKL.out⟩
          · have hnl : decide ((j : Int) < (m : Int)) = false := by simp; omega
            go_wp2
            go_meet
            exact ⟨q, S_2.out, by have := HH.out; omega, HKL.out⟩
      obtain ⟨q, hS, hH, hKL⟩ := hcut
      have S_4 := Lib.hid hS
      have HH := Lib.hid hH
      have HKL := Lib.hid hKL
      clear hS hH hKL S_1
      have HO := Lib.hid ho
      have HX := Lib.hid hx
      have HNN := Lib.hid hnn
      have HL : Hid (q.H.length ≤ 1000) := Lib.hid (by have := HH.out; omega)
      clear ho hx hnn
      go_wp2_with fail
      with_reducible refine (sw_goods S_4.out).mono ?_
      rintro e w5 ⟨v5, rfl, hr, hs, hf⟩
      have S_5 := Lib.hid hs
      have RW_5 := Lib.hid hr
      clear hs hf hr
      go_wp2_with fail
      with_reducible refine (sw_taken S_5.out HL.out).mono ?_
      rintro e w6 ⟨he, hs, hf⟩
      subst he
      have S_6 := Lib.hid hs
      have RW_6 := Lib.hid (RW_5.out.below hf)
      clear hs hf
      obtain ⟨va, hva⟩ : ∃ v, authV q o x nn = v := ⟨_, rfl⟩
      cases va
      · have HNV := Lib.hid hva
        clear hva
        go_wp2_with fail
        with_reducible refine (sw_auth S_6.out o x nn HO.out HX.out HNN.out HL.out).mono ?_
        rintro e w7 ⟨he, hs, hf⟩
        rw [HNV.out] at he
        subst he
        rw [authS_no HNV.out] at hs
        have S_7 := Lib.hid hs
        have RW_7 := Lib.hid (RW_6.out.frm hf)
        clear hs hf
        go_wp2_with fail
        with_reducible refine (sw_goods S_7.out).mono ?_
        rintro e w8 ⟨v8, rfl, hr, hs, hf⟩
        have S_8 := Lib.hid hs
        have RW_8 := Lib.hid (RW_7.out.below hf)
        have RN_8 := Lib.hid hr
        clear hs hf hr
        go_wp2_with fail
        with_reducible refine (sw_sameG S_8.out RN_8.out RW_8.out (by rw [HKL.out]; omega)).mono ?_
        rintro e w9 ⟨rfl, hs, hf⟩
        have S_9 := Lib.hid hs
        clear hs hf
        go_wp2_with fail
        with_reducible refine (HK.out _).mono ?_
        rintro e w50 ⟨rfl, hb⟩
        have S_50 := Lib.hid (S_9.out.below hb)
        clear hb
        go_wp2
        go_ret
        exact ⟨rfl, S_50.out.bel⟩
      · have HW := Lib.hid (wayF S_6.out.inv HO.out hva HH.out)
        have HV1 := Lib.hid (ovr_void S_6.out.inv HO.out hva HH.out)
        have HV2 := Lib.hid (ovr_back S_6.out.inv HO.out hva HH.out)
        have hn1 : 1 ≤ nn := (authV_iff.1 hva).2.1
        have hnb : nn ≤ 1000000000 := by
          obtain ⟨-, -, -, k, hk, h⟩ := authV_iff.1 hva
          have := S_6.out.inv.kbs (findK_some hk).1
          omega
        have htb := tot_bd S_6.out.inv 2
        have hl60 : (q.H.length : Int) ≤ 60 := by have := HH.out; omega
        obtain ⟨htb1, htb2⟩ := htb
        have HVA := Lib.hid hva
        clear hva
        go_wp2_with fail
        with_reducible refine (sw_auth S_6.out o x nn HO.out HX.out HNN.out HL.out).mono ?_
        rintro e w7 ⟨he, hs, hf⟩
        rw [HVA.out] at he
        subst he
        have S_7 := Lib.hid hs
        have RW_7 := Lib.hid (RW_6.out.frm hf)
        clear hs hf
        obtain ⟨q1, hq1⟩ : ∃ q1, authS q o x nn = q1 := ⟨_, rfl⟩
        rw [hq1] at HW HV1 HV2 S_7
        clear hq1
        have HL1 : Hid (q1.H.length ≤ 1000) := Lib.hid (by have := HW.out.l1; omega)
        obtain ⟨tv, htv⟩ : ∃ t, tot q.H 2 = t := ⟨_, rfl⟩
        have HTV := Lib.hid htv
        rw [htv] at htb1 htb2 ⊢
        clear htv
        go_wp2_with fail
        with_reducible refine (sw_auth S_7.out o x nn HO.out HX.out HNN.out HL1.out).mono ?_
        rintro e w8 ⟨he, hs, hf⟩
        rw [HW.out.a] at he
        subst he
        rw [authS_no HW.out.a] at hs
        have S_8 := Lib.hid hs
        have RW_8 := Lib.hid (RW_7.out.frm hf)
        clear hs hf
        go_wp2_with fail
        with_reducible refine (sw_refund S_8.out o HO.out HL1.out).mono ?_
        rintro e w9 ⟨he, hs, hf⟩
        rw [HW.out.r] at he
        subst he
        rw [movS_no HW.out.r] at hs
        have S_9 := Lib.hid hs
        have RW_9 := Lib.hid (RW_8.out.frm hf)
        clear hs hf
        go_wp2_with fail
        with_reducible refine (sw_taken S_9.out HL1.out).mono ?_
        rintro e w10 ⟨he, hs, hf⟩
        rw [HW.out.t, HTV.out] at he
        subst he
        have S_10 := Lib.hid hs
        have RW_10 := Lib.hid (RW_9.out.below hf)
        clear hs hf
        cases cp
        · go_wp2_with fail
          with_reducible refine (sw_void S_10.out o HO.out HL1.out).mono ?_
          rintro e w11 ⟨he, hs, hf⟩
          rw [HW.out.v] at he
          subst he
          have S_11 := Lib.hid hs
          have RW_11 := Lib.hid (RW_10.out.frm hf)
          clear hs hf
          obtain ⟨q3, hq3⟩ : ∃ q3, movS q1 o 1 = q3 := ⟨_, rfl⟩
          rw [hq3] at HV1 S_11
          clear hq3
          have HL3 : Hid (q3.H.length ≤ 1000) := Lib.hid (by have := HV1.out.l; omega)
          go_wp2_with fail
          with_reducible refine (sw_capture S_11.out o HO.out HL3.out).mono ?_
          rintro e w12 ⟨he, hs, hf⟩
          rw [HV1.out.c0] at he
          subst he
          rw [movS_no HV1.out.c0] at hs
          have S_12 := Lib.hid hs
          have RW_12 := Lib.hid (RW_11.out.frm hf)
          clear hs hf
          go_wp2_with fail
          with_reducible refine (sw_void S_12.out o HO.out HL3.out).mono ?_
          rintro e w13 ⟨he, hs, hf⟩
          rw [HV1.out.c1] at he
          subst he
          rw [movS_no HV1.out.c1] at hs
          have S_13 := Lib.hid hs
          have RW_13 := Lib.hid (RW_12.out.frm hf)
          clear hs hf
          go_wp2_with fail
          with_reducible refine (sw_refund S_13.out o HO.out HL3.out).mono ?_
          rintro e w14 ⟨he, hs, hf⟩
          rw [HV1.out.c2] at he
          subst he
          rw [movS_no HV1.out.c2] at hs
          have S_14 := Lib.hid hs
          have RW_14 := Lib.hid (RW_13.out.frm hf)
          clear hs hf
          go_wp2_with fail
          with_reducible refine (sw_auth S_14.out o x nn HO.out HX.out HNN.out HL3.out).mono ?_
          rintro e w15 ⟨he, hs, hf⟩
          rw [HV1.out.a] at he
          subst he
          rw [authS_no HV1.out.a] at hs
          have S_15 := Lib.hid hs
          have RW_15 := Lib.hid (RW_14.out.frm hf)
          clear hs hf
          go_wp2_with fail
          with_reducible refine (sw_goods S_15.out).mono ?_
          rintro e w16 ⟨v16, rfl, hr, hs, hf⟩
          have S_16 := Lib.hid hs
          have RW_16 := Lib.hid (RW_15.out.below hf)
          have RE_16 := Lib.hid hr
          clear hs hf hr
          have RE2 := RE_16.out
          rw [HV1.out.k] at RE2
          have RE2 := Lib.hid RE2
          go_wp2_with fail
          with_reducible refine (sw_sameG S_16.out RE2.out RW_16.out (by rw [HKL.out]; omega)).mono ?_
          rintro e w17 ⟨rfl, hs, hf⟩
          have S_17 := Lib.hid hs
          clear hs hf
          go_wp2_with fail
          with_reducible refine (sw_taken S_17.out HL3.out).mono ?_
          rintro e w18 ⟨he, hs, hf⟩
          rw [HV1.out.t, HTV.out] at he
          subst he
          have S_18 := Lib.hid hs
          clear hs hf
          go_wp2_with fail
          with_reducible refine (HK.out _).mono ?_
          rintro e w60 ⟨rfl, hb⟩
          have S_60 := Lib.hid (S_18.out.below hb)
          clear hb
          go_wp2
          go_ret
          exact ⟨rfl, S_60.out.bel⟩
        · go_wp2_with fail
          with_reducible refine (sw_capture S_10.out o HO.out HL1.out).mono ?_
          rintro e w11 ⟨he, hs, hf⟩
          rw [HW.out.c] at he
          subst he
          have S_11 := Lib.hid hs
          have RW_11 := Lib.hid (RW_10.out.frm hf)
          clear hs hf
          obtain ⟨q2, hq2⟩ : ∃ q2, movS q1 o 0 = q2 := ⟨_, rfl⟩
          have HW2 := Lib.hid (And.intro HW.out.ct (And.intro HW.out.c0 (And.intro HW.out.c1 (And.intro HW.out.c2 HW.out.l2))))
          rw [hq2] at HW2 HV2 S_11
          clear hq2
          have HL2 : Hid (q2.H.length ≤ 1000) := Lib.hid (by have := HW2.out.2.2.2.2; omega)
          go_wp2_with fail
          with_reducible refine (sw_taken S_11.out HL2.out).mono ?_
          rintro e w12 ⟨he, hs, hf⟩
          rw [HW2.out.1, HTV.out] at he
          subst he
          have S_12 := Lib.hid hs
          have RW_12 := Lib.hid (RW_11.out.below hf)
          clear hs hf
          have ew : IntKind.i64.wrap (tv + nn) = tv + nn := IntWalk.i64_in _ (by omega)
          go_wp2_with fail
          with_reducible refine (sw_capture S_12.out o HO.out HL2.out).mono ?_
          rintro e w13 ⟨he, hs, hf⟩
          rw [HW2.out.2.1] at he
          subst he
          rw [movS_no HW2.out.2.1] at hs
          have S_13 := Lib.hid hs
          have RW_13 := Lib.hid (RW_12.out.frm hf)
          clear hs hf
          go_wp2_with fail
          with_reducible refine (sw_void S_13.out o HO.out HL2.out).mono ?_
          rintro e w14 ⟨he, hs, hf⟩
          rw [HW2.out.2.2.1] at he
          subst he
          rw [movS_no HW2.out.2.2.1] at hs
          have S_14 := Lib.hid hs
          have RW_14 := Lib.hid (RW_13.out.frm hf)
          clear hs hf
          go_wp2_with fail
          with_reducible refine (sw_refund S_14.out o HO.out HL2.out).mono ?_
          rintro e w15 ⟨he, hs, hf⟩
          rw [HW2.out.2.2.2.1] at he
          subst he
          have S_15 := Lib.hid hs
          have RW_15 := Lib.hid (RW_14.out.frm hf)
          clear hs hf
          obtain ⟨q3, hq3⟩ : ∃ q3, movS q2 o 2 = q3 := ⟨_, rfl⟩
          rw [hq3] at HV2 S_15
          clear hq3
          have HL3 : Hid (q3.H.length ≤ 1000) := Lib.hid (by have := HV2.out.l; omega)
          go_wp2_with fail
          with_reducible refine (sw_capture S_15.out o HO.out HL3.out).mono ?_
          rintro e w16 ⟨he, hs, hf⟩
          rw [HV2.out.c0] at he
          subst he
          rw [movS_no HV2.out.c0] at hs
          have S_16 := Lib.hid hs
          have RW_16 := Lib.hid (RW_15.out.frm hf)
          clear hs hf
          go_wp2_with fail
          with_reducible refine (sw_void S_16.out o HO.out HL3.out).mono ?_
          rintro e w17 ⟨he, hs, hf⟩
          rw [HV2.out.c1] at he
          subst he
          rw [movS_no HV2.out.c1] at hs
          have S_17 := Lib.hid hs
          have RW_17 := Lib.hid (RW_16.out.frm hf)
          clear hs hf
          go_wp2_with fail
          with_reducible refine (sw_refund S_17.out o HO.out HL3.out).mono ?_
          rintro e w18 ⟨he, hs, hf⟩
          rw [HV2.out.c2] at he
          subst he
          rw [movS_no HV2.out.c2] at hs
          have S_18 := Lib.hid hs
          have RW_18 := Lib.hid (RW_17.out.frm hf)
          clear hs hf
          go_wp2_with fail
          with_reducible refine (sw_auth S_18.out o x nn HO.out HX.out HNN.out HL3.out).mono ?_
          rintro e w19 ⟨he, hs, hf⟩
          rw [HV2.out.a] at he
          subst he
          rw [authS_no HV2.out.a] at hs
          have S_19 := Lib.hid hs
          have RW_19 := Lib.hid (RW_18.out.frm hf)
          clear hs hf
          go_wp2_with fail
          with_reducible refine (sw_goods S_19.out).mono ?_
          rintro e w20 ⟨v20, rfl, hr, hs, hf⟩
          have S_20 := Lib.hid hs
          have RW_20 := Lib.hid (RW_19.out.below hf)
          have RE_20 := Lib.hid hr
          clear hs hf hr
          have RE2 := RE_20.out
          rw [HV2.out.k] at RE2
          have RE2 := Lib.hid RE2
          go_wp2_with fail
          with_reducible refine (sw_sameG S_20.out RE2.out RW_20.out (by rw [HKL.out]; omega)).mono ?_
          rintro e w21 ⟨rfl, hs, hf⟩
          have S_21 := Lib.hid hs
          clear hs hf
          go_wp2_with fail
          with_reducible refine (sw_taken S_21.out HL3.out).mono ?_
          rintro e w22 ⟨he, hs, hf⟩
          rw [HV2.out.t, HTV.out] at he
          subst he
          have S_22 := Lib.hid hs
          clear hs hf
          go_wp2_with fail
          with_reducible refine (HK.out _).mono ?_
          rintro e w60 ⟨rfl, hb⟩
          have S_60 := Lib.hid (S_22.out.below hb)
          clear hb
          go_wp2
          go_ret
          exact ⟨rfl, S_60.out.bel⟩

end Go.Proofs.Ytlgdjmmhdfpfeaa
