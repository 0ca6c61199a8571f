/-
  The walk of PurseMost.
-/
import Derived.Test.YtlgdjmmhdfpfeaaLawB
namespace Go.Proofs.Ytlgdjmmhdfpfeaa
open Go.Proofs Go.RowKit
set_option maxRecDepth 100000
set_option linter.unusedVariables false
set_option linter.unusedSimpArgs false

theorem idx_of (wh : Int) (n : Nat) (h0 : 0 < n) (h : n ≤ 200) : ∃ j : Nat, wrap64 ((IntKind.u64.wrap wh).tmod (n : Int)) = (j : Int) ∧ j < n ∧ IntKind.i64.wrap ((IntKind.u64.wrap wh).tmod (n : Int)) = (j : Int) := by
  have h1 : 0 ≤ IntKind.u64.wrap wh := by rw [IntKind.wrap_u64]; omega
  have h2 : (IntKind.u64.wrap wh).tmod (n : Int) = (IntKind.u64.wrap wh) % (n : Int) := Int.tmod_eq_emod_of_nonneg h1
  have h3 : 0 ≤ (IntKind.u64.wrap wh) % (n : Int) := Int.emod_nonneg _ (by omega)
  have h4 : (IntKind.u64.wrap wh) % (n : Int) < (n : Int) := Int.emod_lt_of_pos _ (by omega)
  rw [h2]
  generalize (IntKind.u64.wrap wh) % (n : Int) = r at *
  have h5 : wrap64 r = r := by unfold wrap64; omega
  have h6 : IntKind.i64.wrap r = r := IntWalk.i64_in _ (by omega)
  exact ⟨r.toNat, by rw [h5]; omega, by omega, by rw [h6]; omega⟩
def MoR (w : World) (b : SB) (q : Ss) (g : Nat) (x : Kd) (v : Value) (wr : World) : Prop := ∃ o : Nat, 4000000000 ≤ o ∧ o ≤ 4000000060 ∧ v = .int .u32 (o : Int) ∧ (∀ i, i < o - 4000000000 → ∃ y ∈ q.H, y.o = 4000000000 + i) ∧ SW w wr b q ∧ Lies wr g 46 #[encStr x.n, .int .i64 x.m, .int .i64 x.h]

set_option maxHeartbeats 16000000 in
theorem purseMost_walk (A : Option Addr) (n c : Nat) (l : List Kd) (B : Option Addr) (m d : Nat) (a : List Ac) (which : Int) (w : World) (hG : Gin w A n l) (hn : n ≤ maxLen) (hL : GoodsOk l) (hA : Ain w B m a) (hm : m ≤ maxLen) (hAO : ActsOk a) (hwh : in64 which)
    (KN : ∀ W, Calls Try.prog 10 #[] W fun e w' => e = .returned (.bool true) ∧ Below W.heap.size W w') :
    Calls Try.prog 7 #[.slice A n c, .slice B m d, .int .i64 which] w fun e w' => e = .returned (.bool true) ∧ Below w.heap.size w w' := by
  have HG := Lib.hid hG
  have HA := Lib.hid hA
  have HL := Lib.hid hL
  have HAO := Lib.hid hAO
  have HN := Lib.hid hG.1
  have HM := Lib.hid hA.1
  have HK := Lib.hid KN
  have HC := Lib.hid (long_any A n c l B m d a w hG hA hm hn)
  have hmm : (m : Int) ≤ 9223372036854775807 := by unfold maxLen at hm; omega
  clear hG hA hL hAO KN hm
  go_enter Try.func7, Try.ntmps7
  go_wp2_with fail
  with_reducible refine HC.out.mono ?_
  rintro e w1 ⟨rfl, rfl | ⟨rfl, hs⟩⟩
  · go_wp2_with fail
    with_reducible refine (HK.out _).mono ?_
    rintro e w2 ⟨rfl, hb⟩
    have HB := Lib.hid hb
    clear hb
    go_wp2
    go_ret
    exact ⟨rfl, HB.out⟩
  · have HS := Lib.hid hs
    have hn2 : n ≤ 200 := by have := hs.1; have := HN.out; omega
    clear hs HC hn
    go_wp2_with fail
    with_reducible refine (sw_new (Below.refl _ _) A n c l HG.out (by omega) HS.out.names).mono ?_
    rintro e w1 ⟨hb, ⟨h1, rfl⟩ | ⟨K, b, h1, rfl, hs, -⟩⟩
    · have HB := Lib.hid hb
      clear hb h1
      go_wp2_with fail
      with_reducible refine (HK.out _).mono ?_
      rintro e w2 ⟨rfl, hb⟩
      have HB2 := Lib.hid (HB.out.trans (hb.mono HB.out.size))
      clear hb
      go_wp2
      go_ret
      exact ⟨rfl, HB2.out⟩
    · have S_1 := Lib.hid hs
      have HNO := Lib.hid h1
      have HNW := Lib.hid (newOf_some h1).2.2
      clear hb h1 hs
      have HKN : Hid (K.length = n) := Lib.hid (HNW.out.len.trans HN.out)
      by_cases hz : n = 0
      · have ez : (((n : Int) == 0) : Bool) = true := by rw [hz]; rfl
        clear hz
        go_wp2_with fail
        with_reducible refine (HK.out _).mono ?_
        rintro e w2 ⟨rfl, hb⟩
        have S_2 := Lib.hid (S_1.out.below hb)
        clear hb
        go_wp2
        go_ret
        exact ⟨rfl, S_2.out.bel⟩
      · have ez : (((n : Int) == 0) : Bool) = false := beq_eq_false_iff_ne.2 (by omega)
        go_upto_block 0 with (fail)
        go_cut [9] (fun s9 W => AcE 60 n w b W)
        case first =>
          go_wp2_with fail
          go_loopw [9] (fun i wr => AcR 60 n w a b i wr) (fun i _ => 61 - (intOf i).toNat)
          case atStart => exact ⟨0, ⟨K, []⟩, by omega, by omega, rfl, S_1.out, Nat.le_refl _, HKN.out⟩
          case round =>
            clear S_1
            obtain ⟨j, q, hj, hj2, rfl, hS, hH, hKL⟩ := hrel
            have S_2 := Lib.hid hS
            have HH := Lib.hid hH
            have HKL := Lib.hid hKL
            clear hS hH hKL
            have hjm : j ≤ m := by have := HM.out; omega
            by_cases hlt : j < m
            · have hlt2 : (j : Int) < (m : Int) := by omega
              by_cases hq3 : j < 60
              · have e2 : decide ((j : Int) < 60) = true := by simp; omega
                have hlt3 : j < a.length := by have := HM.out; omega
                obtain ⟨b0, off, rfl, hbl, hcell⟩ := HA.out.2 (by omega)
                obtain ⟨xx, hxx⟩ : ∃ q, a[j] = q := ⟨_, rfl⟩
                have hcj := hcell j hlt3
                rw [hxx] at hcj
                have HXO := Lib.hid (HAO.out a[j] (List.getElem_mem hlt3))
                rw [hxx] at HXO
                have HCJ := Lib.hid (And.intro hcj hbl)
                clear hcell hxx hcj hbl
                obtain ⟨xt, xo, xn, xk⟩ := xx
                dsimp only at HXO HCJ
                obtain ⟨⟨x0, x1, x2, x3⟩, hbl⟩ := HCJ.out
                rw [← S_2.out.bel.cell (p := ⟨b0, off + j * 4, none⟩) hbl] at x0
                rw [← S_2.out.bel.cell (p := ⟨b0, off + j * 4 + 1, none⟩) hbl] at x1
                rw [← S_2.out.bel.cell (p := ⟨b0, off + j * 4 + 2, none⟩) hbl] at x2
                rw [← S_2.out.bel.cell (p := ⟨b0, off + j * 4 + 3, none⟩) hbl] at x3
                clear hbl
                go_wp2_with fail
                with_reducible refine (sw_act S_2.out xt xo xn xk HXO.out.2.1 HXO.out.2.2.1 HXO.out.2.2.2 (by have := HH.out; omega)).mono ?_
                rintro e w3 ⟨rfl, hs, hf⟩
                have S_3 := Lib.hid hs
                clear hs hf x0 x1 x2 x3
                have HH2 := Lib.hid (actS_len q ⟨xt, xo, xn, xk⟩).1
                have HK2 := Lib.hid ((act_len ⟨xt, xo, xn, xk⟩).trans HKL.out)
                go_wp2
                go_roundw
                case rel => exact ⟨j + 1, _, by omega, by omega, by go_num, S_3.out, by have := HH.out; have := HH2.out; omega, HK2.out⟩
                case measure => simp [intOf]; omega
              · have e2 : decide ((j : Int) < 60) = false := by simp; omega
                go_wp2
                go_meet
                exact ⟨q, S_2.out, by have := HH.out; omega, HKL.out⟩
            · have hnl : decide ((j : Int) < (m : Int)) = false := by simp; omega
              go_wp2
              go_meet
              exact ⟨q, S_2.out, by have := HH.out; omega, HKL.out⟩
        obtain ⟨q, hS, hH, hKL⟩ := hcut
        have S_4 := Lib.hid hS
        have HH := Lib.hid hH
        have HKL := Lib.hid hKL
        clear hS hH hKL S_1
        go_wp2_with fail
        with_reducible refine (sw_goods S_4.out).mono ?_
        rintro e w5 ⟨v5, rfl, hr, hs, hf⟩
        have S_5 := Lib.hid hs
        have RX := Lib.hid hr
        clear hs hf hr
        obtain ⟨A5, c5, rfl, -, -⟩ := RX.out.gin
        rw [HKL.out] at RX ⊢
        obtain ⟨j, hj1, hj2, hj3⟩ := idx_of which n (by omega) hn2
        have HJ := Lib.hid (And.intro hj1 hj3)
        have hjK : j < q.K.length := by rw [HKL.out]; exact hj2
        obtain ⟨g5, o5, rfl, hgl, z0, z1, z2⟩ := RX.out.at j hjK
        have HX := Lib.hid (List.getElem_mem hjK)
        obtain ⟨x, hx⟩ : ∃ x, q.K[j] = x := ⟨_, rfl⟩
        rw [hx] at z0 z1 z2 HX
        clear hx hjK hj1 hj3 hgl RX
        have eu : IntKind.u64.wrap (n : Int) = (n : Int) := by rw [IntKind.wrap_u64]; omega
        have ej := HJ.out.1
        have ej2 := HJ.out.2
        have hj4 : (j : Int) < (n : Int) := by omega
        go_wp2_with fail
        obtain ⟨w6, hw6⟩ : ∃ W, W = w5.alloc (.cells #[encStr x.n, .int .i64 x.m, .int .i64 x.h] 46) := ⟨_, rfl⟩
        rw [← hw6]
        have S_6 : Hid (SW w w6 b q) := Lib.hid (by rw [hw6]; exact S_5.out.alloc _)
        have L_6 : Hid (Lies w6 w5.heap.size 46 #[encStr x.n, .int .i64 x.m, .int .i64 x.h]) := Lib.hid (by rw [hw6]; exact Lies.made _ _ _)
        obtain ⟨g6, hg6⟩ : ∃ g, w5.heap.size = g := ⟨_, rfl⟩
        rw [hg6] at L_6 ⊢
        clear hw6 hg6 eu ej ej2 z0 z1 z2 hj4 HJ S_5
        go_loopw [12] (fun v wr => MoR w b q g6 x v wr) (fun v _ => 4000000061 - (intOf v).toNat)
        case atStart => exact ⟨4000000000, Nat.le_refl _, by omega, rfl, fun i hi => by omega, S_6.out, L_6.out⟩
        case round =>
          clear S_6 L_6
          obtain ⟨o, ho1, ho2, rfl, hall, hS, hL⟩ := hrel
          have S_7 := Lib.hid hS
          have L_7 := Lib.hid hL
          have HALL := Lib.hid hall
          clear hS hL hall
          have HOL : Hid (o < 4294967296) := Lib.hid (by omega)
          go_wp2_with fail
          with_reducible refine (sw_holds S_7.out (by have := HH.out; omega)).mono ?_
          rintro e w8 ⟨v8, rfl, hr, hs, hf⟩
          have S_8 := Lib.hid hs
          have RP := Lib.hid hr
          have L_8 := Lib.hid (Lies.below L_7.out hf L_7.out.lt)
          clear hs hf hr
          go_wp2_with fail
          with_reducible refine (has_row RP.out (by have := HH.out; omega) o).mono ?_
          rintro e w9 ⟨rfl, rfl⟩
          cases hf : findH q.H o with
          | some y =>
            have hrow : o - 4000000000 + 1 ≤ q.H.length := row_le 4000000000 _ fun i hi => by
              by_cases h : i < o - 4000000000
              · exact HALL.out i h
              · obtain ⟨h1, h2⟩ := findH_some hf
                exact ⟨y, h1, by omega⟩
            have HMORE : Hid (∀ i, i < o + 1 - 4000000000 → ∃ y ∈ q.H, y.o = 4000000000 + i) := Lib.hid (fun i hi => by
              by_cases h : i < o - 4000000000
              · exact HALL.out i h
              · obtain ⟨h1, h2⟩ := findH_some hf
                exact ⟨y, h1, by omega⟩)
            have ho3 : o < 4000000060 := by have := HH.out; omega
            clear hf hrow
            dsimp only [Option.isSome_some]
            have ew : IntKind.u32.wrap ((o : Int) + 1) = ((o + 1 : Nat) : Int) := by rw [IntKind.wrap_u32]; omega
            go_wp2
            go_roundw
            case rel => exact ⟨o + 1, by omega, by omega, rfl, HMORE.out, S_8.out, L_8.out⟩
            case measure => simp [intOf]; omega
          | none =>
            have HF := Lib.hid hf
            clear hf
            dsimp only [Option.isSome_none]
            have hb := S_8.out.inv.kbs HX.out
            obtain ⟨hb1, hb2, hb3⟩ := hb
            have HXL : Hid (x.n.length ≤ maxLen) := Lib.hid (by have := (S_8.out.inv.kl x HX.out).2; unfold maxLen; omega)
            obtain ⟨p0, p1, p2⟩ := L_8.out.cells3
            have e1 : IntKind.i64.wrap (x.m - x.h) = x.m - x.h := IntWalk.i64_in _ (by omega)
            have e2 : IntKind.i64.wrap (x.m - x.h + 1) = x.m - x.h + 1 := IntWalk.i64_in _ (by omega)
            go_wp2_with fail
            with_reducible refine (sw_auth S_8.out o x.n (x.m - x.h + 1) HOL.out HXL.out (by unfold in64; omega) (by have := HH.out; omega)).mono ?_
            rintro e w9 ⟨he, hs, hf⟩
            have hno := most_more S_8.out.inv HX.out o
            rw [hno] at he
            subst he
            rw [authS_no hno] at hs
            have S_9 := Lib.hid hs
            have L_9 := Lib.hid (hf.lies L_8.out (fun hm => absurd (S_8.out.ok.map_ne L_8.out hm) id))
            clear hs hf hno p0 p1 p2
            obtain ⟨p0, p1, p2⟩ := L_9.out.cells3
            go_wp2_with fail
            with_reducible refine (sw_auth S_9.out o x.n (x.m - x.h) HOL.out HXL.out (by unfold in64; omega) (by have := HH.out; omega)).mono ?_
            rintro e w10 ⟨he, hs, hf⟩
            rw [most_all S_9.out.inv HX.out (by omega) HF.out] at he
            subst he
            have S_10 := Lib.hid hs
            have L_10 := Lib.hid (hf.lies L_9.out (fun hm => absurd (S_9.out.ok.map_ne L_9.out hm) id))
            clear hs hf p0 p1 p2 e1 e2
            obtain ⟨p0, p1, p2⟩ := L_10.out.cells3
            go_wp2_with fail
            with_reducible refine (auth_nil _ _ _ _).mono ?_
            rintro e w11 ⟨rfl, rfl⟩
            go_wp2_with fail
            with_reducible refine (capture_nil _ _).mono ?_
            rintro e w11 ⟨rfl, rfl⟩
            go_wp2_with fail
            with_reducible refine (void_nil _ _).mono ?_
            rintro e w11 ⟨rfl, rfl⟩
            go_wp2_with fail
            with_reducible refine (refund_nil _ _).mono ?_
            rintro e w11 ⟨rfl, rfl⟩
            go_wp2_with fail
            with_reducible refine (accts_nil _).mono ?_
            rintro e w11 ⟨rfl, rfl⟩
            go_wp2_with fail
            with_reducible refine (pays_nil _).mono ?_
            rintro e w11 ⟨rfl, rfl⟩
            go_wp2_with fail
            with_reducible refine (taken_nil _).mono ?_
            rintro e w11 ⟨rfl, rfl⟩
            by_cases hlt : x.h < x.m
            · rw [show decide (x.h < x.m) = true from decide_eq_true hlt]
              simp only [verd, if_true]
              go_wp2_with fail
              with_reducible refine (HK.out _).mono ?_
              rintro e w12 ⟨rfl, hb⟩
              have S_12 := Lib.hid (S_10.out.below hb)
              clear hb
              go_wp2
              go_ret
              exact ⟨rfl, S_12.out.bel⟩
            · have hlt2 : decide (x.h < x.m) = false := decide_eq_false hlt
              rw [hlt2]
              simp only [verd, Bool.false_eq_true, if_false]
              go_wp2_with fail
              with_reducible refine (HK.out _).mono ?_
              rintro e w12 ⟨rfl, hb⟩
              have S_12 := Lib.hid (S_10.out.below hb)
              clear hb
              go_wp2
              go_ret
              exact ⟨rfl, S_12.out.bel⟩

end Go.Proofs.Ytlgdjmmhdfpfeaa
