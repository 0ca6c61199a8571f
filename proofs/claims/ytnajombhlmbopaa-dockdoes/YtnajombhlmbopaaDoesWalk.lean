/-
  The walk of DockDoes.
-/
import Derived.Test.YtnajombhlmbopaaDoesP
import Derived.Test.YtnajombhlmbopaaLawB
namespace Go.Proofs.Ytnajombhlmbopaa
open Go.Proofs Go.RowKit
set_option maxRecDepth 100000
set_option linter.unusedVariables false
set_option linter.unusedSimpArgs false

def DoR (w : World) (l : List Int) (a : List Ac) (b : SB) (B g : Nat) (v11 : Value) (wr : World) : Prop := ∃ (j : Nat) (q : Ss) (vF vL : Value) (r : Rs), j ≤ a.length ∧ j ≤ 100 ∧ v11 = .int .i64 (j : Int) ∧ DW w wr l b q B g vF vL r ∧ q.H.length ≤ j
def DoO (w : World) (C : Nat) (l : List Int) (b : SB) (B g : Nat) (vF vL v0 : Value) (n : Nat) (v10 : Value) (wr : World) : Prop := ∃ k : Nat, k ≤ n ∧ v10 = .int .i64 (k : Int) ∧ DW w wr l b ⟨l, []⟩ B g vF vL ⟨l, []⟩ ∧ RowO wr w.heap.size C v0 n
def DoN (n : Nat) (v18 : Value) : Prop := ∃ k : Nat, k ≤ n + 2 ∧ v18 = .int .i64 ((k : Int) - 1)
def DoM (Y : World) (v17 : Value) (n6 : Nat) (v19 : Value) (wr : World) : Prop := ∃ k : Nat, k ≤ n6 ∧ v19 = .int .i64 (k : Int) ∧ Below Y.heap.size Y wr ∧ RowW wr Y.heap.size 44 3 v17 n6
theorem rs_bk {r : Rs} {t : Int} {o : Nat} {f n : Int} (h : isBk t = true) : rbookS r o n (rbookD r o f n) = rstep r ⟨t, o, f, n⟩ := by
  unfold rstep
  dsimp only
  rw [if_pos h]
theorem rs_ca {r : Rs} {t : Int} {o : Nat} {f n : Int} (h : ¬ isBk t = true) : rcancS r o = rstep r ⟨t, o, f, n⟩ := by
  unfold rstep
  dsimp only
  rw [if_neg h]

set_option maxHeartbeats 16000000 in
theorem dockDoes_walk (A : Option Addr) (n c : Nat) (l : List Int) (B : Option Addr) (m d : Nat) (a : List Ac)  (w : World) (hG : Iin w A n l) (hn : n ≤ maxLen) (hIO : IntsOk l) (hA : Ain w B m a) (hm : m ≤ maxLen) (hAO : ActsOk a) 
    (KN : ∀ W, Calls Try.prog 9 #[] W fun e w' => e = .returned (.bool true) ∧ Below W.heap.size W w') :
    Calls Try.prog 3 #[.slice A n c, .slice B m d] w fun e w' => e = .returned (.bool true) ∧ Below w.heap.size w w' := by
  have HG := Lib.hid hG
  have HN := Lib.hid hG.1
  have HK := Lib.hid KN
  have HA := Lib.hid hA
  have HAO := Lib.hid hAO
  have HM := Lib.hid hA.1
  have hmm : (m : Int) ≤ 9223372036854775807 := by unfold maxLen at hm; omega
  have hnn0 : (n : Int) ≤ 9223372036854775807 := by unfold maxLen at hn; omega
  clear hG KN hn hA hAO hm hIO
  by_cases h200 : 200 < n
  · have e0 : decide ((200 : Int) < (n : Int)) = true := by simp; omega
    go_enter Try.func3, Try.ntmps3
    go_wp2_with fail
    with_reducible refine (HK.out _).mono ?_
    rintro e w2 ⟨rfl, hb⟩
    have HB := Lib.hid hb
    clear hb
    go_wp2
    go_ret
    exact ⟨rfl, HB.out⟩
  · have e0 : decide ((200 : Int) < (n : Int)) = false := by simp; omega
    have hn1 : n ≤ 1000 := by omega
    have HN1 := Lib.hid hn1
    clear hn1
    go_enter Try.func3, Try.ntmps3
    go_wp2_with (first | ((with_reducible refine wpl_appArg (some 26) _ _ _ (.tmp 24) (.tmp 25) A n c l ?hs ?hx HG.out HN1.out ?_); (case hs => rfl); (case hx => rfl); (intro v0 w0 ho0 hb0; (have HO0 := Lib.hid ho0); (have HB0 := Lib.hid hb0); (obtain ⟨A0, c0, e00, hin0, -⟩ := ho0.iin); (have HI0 := Lib.hid hin0); clear ho0 hb0 hin0; rw [HN.out] at e00 HI0; subst e00)))
    with_reducible refine (sw_new HB0.out A0 n c0 l HI0.out HN1.out).mono ?_
    rintro e w1 ⟨hb, ⟨h1, rfl⟩ | ⟨b, h1, rfl, hs, hlo1, hlo2⟩⟩
    · have HB := Lib.hid (HB0.out.trans (hb.mono HB0.out.size))
      have HNN := Lib.hid h1
      clear hb h1
      go_wp2_with fail
      with_reducible refine (rnew_any A n c l w1 (HG.out.below HB.out) HN1.out).mono ?_
      rintro e w2 ⟨hb, ⟨-, rfl⟩ | ⟨g, vF, vL, h2, -⟩⟩
      · have HB1 := Lib.hid (HB.out.trans (hb.mono HB.out.size))
        clear hb
        go_wp2_with fail
        with_reducible refine (HK.out _).mono ?_
        rintro e w3 ⟨rfl, hb⟩
        have HB2 := Lib.hid (HB1.out.trans (hb.mono HB1.out.size))
        clear hb
        go_wp2
        go_ret
        exact ⟨rfl, HB2.out⟩
      · rw [HNN.out] at h2; cases h2
    · have S_1 := Lib.hid hs
      have HNO := Lib.hid h1
      have HROW := Lib.hid (HO0.out.rowo.below hb)
      have HLO := Lib.hid (And.intro hlo1 hlo2)
      clear hb h1 hs hlo1 hlo2
      go_wp2_with fail
      with_reducible refine (rnew_any A n c l w1 (HG.out.below (S_1.out.bel)) HN1.out).mono ?_
      rintro e w2 ⟨hb, ⟨h1', -⟩ | ⟨g, vF, vL, h2, rfl, hr⟩⟩
      · rw [HNO.out] at h1'; cases h1'
      have hD : DW w w2 l b ⟨l, []⟩ w1.heap.size g vF vL ⟨l, []⟩ := ⟨S_1.out.below hb, hr, Rel.start, ⟨S_1.out.ok.c.lt, fun i hi => S_1.out.ok.map_lt hi⟩, S_1.out.bel.size, hb.size⟩
      have HRW := Lib.hid (HROW.out.below hb)
      rw [HN.out] at HRW
      have HC1 : Hid (w0.heap.size ≤ w1.heap.size) := Lib.hid (by have := HLO.out.1; have := S_1.out.ok.c.lt; omega)
      obtain ⟨B, hB⟩ : ∃ B, B = w1.heap.size := ⟨_, rfl⟩
      rw [← hB] at hD HC1
      obtain ⟨C, hC⟩ : ∃ C, C = w0.heap.size := ⟨_, rfl⟩
      rw [← hC] at HRW HLO HC1
      have D_0 := Lib.hid hD
      clear hD hr hb h2 hB hC S_1 HROW HO0 HB0 HI0
      go_wp2_with fail
      go_loopw [10] (fun i wr => DoO w C l b B g vF vL (.slice A0 n c0) n i wr) (fun i _ => n - (intOf i).toNat)
      case atStart => exact ⟨0, by omega, rfl, D_0.out, HRW.out⟩
      case round =>
        clear D_0 HRW
        obtain ⟨k, hk, rfl, hD, hr⟩ := hrel
        have D_1 := Lib.hid hD
        have HR8 := Lib.hid hr
        clear hD hr
        by_cases hk1 : k < n
        · have hk2 : (k : Int) < (n : Int) := by omega
          rcases HR8.out with h | ⟨g5, o5, cc, cs5, e5, hg5, hg6, hL5, hs5⟩
          · omega
          injection e5 with q1 q2 q3
          subst q1 q3
          have HL5 := Lib.hid hL5
          clear hL5 q2
          go_wp2_with (first | ((with_reducible refine wpl_putC none _ _ _ 3 (.tmp 63) (.const (.int .i64 (-7))) g5 (o5 + k) 3 cs5 (.int .i64 (-7)) ?px ?py HL5.out ?pi ?ps rfl ?_); (case px => rfl); (case py => rfl); (case pi => omega); (case ps => kernel_rfl); (intro w8 hp8; (have HP8 := Lib.hid hp8); clear hp8)))
          go_roundw
          case rel => exact ⟨k + 1, by omega, by go_num, D_1.out.own HP8.out hg5 ⟨fun e => by have := HLO.out.1; omega, fun hm => by have := HLO.out.2 _ hm; omega⟩ (by have := HC1.out; omega), .inr ⟨g5, o5, _, _, rfl, hg5, hg6, HP8.out.lies, by simpa using hs5⟩⟩
          case measure => simp [intOf]; omega
        · have hk2 : decide ((k : Int) < (n : Int)) = false := by simp; omega
          clear HR8
          go_wp2_with fail
          go_loopw [11] (fun i wr => DoR w l a b B g i wr) (fun i _ => 101 - (intOf i).toNat)
          case atStart => exact ⟨0, ⟨l, []⟩, vF, vL, _, by omega, by omega, rfl, D_1.out, Nat.le_refl _⟩
          case round =>
            clear hk hk1 hk2
            clear D_1
            obtain ⟨j, q, vF, vL, r, hj, hj2, rfl, hD, hH⟩ := hrel
            have D_2 := Lib.hid hD
            have HH := Lib.hid hH
            clear hD hH
            have hjm : j ≤ m := by have := HM.out; omega
            by_cases hlt : j < m
            · have hlt2 : (j : Int) < (m : Int) := by omega
              by_cases hq3 : j < 100
              · have e2 : decide ((j : Int) < 100) = true := by simp; omega
                have hlt3 : j < a.length := by have := HM.out; omega
                obtain ⟨b0, off, rfl, hbl, hcell⟩ := HA.out.2 (by omega)
                obtain ⟨xx, hxx⟩ : ∃ q, a[j] = q := ⟨_, rfl⟩
                have hcj := hcell j hlt3
                rw [hxx] at hcj
                have HXO := Lib.hid (HAO.out a[j] (List.getElem_mem hlt3))
                rw [hxx] at HXO
                have HCJ := Lib.hid (And.intro hcj hbl)
                clear hcell hxx hcj hbl
                obtain ⟨xt, xo, xf, xk⟩ := xx
                dsimp only at HXO HCJ
                obtain ⟨⟨x0, x1, x2, x3⟩, hbl⟩ := HCJ.out
                rw [← D_2.out.s.bel.cell (p := ⟨b0, off + j * 4, none⟩) hbl] at x0
                rw [← D_2.out.s.bel.cell (p := ⟨b0, off + j * 4 + 1, none⟩) hbl] at x1
                rw [← D_2.out.s.bel.cell (p := ⟨b0, off + j * 4 + 2, none⟩) hbl] at x2
                rw [← D_2.out.s.bel.cell (p := ⟨b0, off + j * 4 + 3, none⟩) hbl] at x3
                clear hbl
                by_cases t0 : 0 ≤ xt
                · have t0' : decide (0 ≤ xt) = true := by simpa using t0
                  by_cases t1 : xt ≤ 2
                  · have t1' : decide (xt ≤ 2) = true := by simpa using t1
                    have HBK : Hid (isBk xt = true) := Lib.hid (by unfold isBk; rw [t0', t1']; rfl)
                    have LB : Hid (Lies (wr.alloc (.cells #[.int .i64 xt, .int .u32 (xo : Int), .int .i64 xf, .int .i64 xk] 34)) wr.heap.size 34 #[.int .i64 xt, .int .u32 (xo : Int), .int .i64 xf, .int .i64 xk]) := Lib.hid (Lies.made _ _ _)
                    have DB := Lib.hid (D_2.out.below (below1 wr (.cells #[.int .i64 xt, .int .u32 (xo : Int), .int .i64 xf, .int .i64 xk] 34)))
                    have HNM : Hid (¬ b.isMap wr.heap.size) := Lib.hid (fun hm => Nat.lt_irrefl _ (D_2.out.s.ok.map_lt hm))
                    obtain ⟨b0', b1', b2', b3'⟩ := LB.out.cells4
                    go_wp2_with fail
                    obtain ⟨W0, hW0⟩ : ∃ W, W = wr.alloc (.cells #[.int .i64 xt, .int .u32 (xo : Int), .int .i64 xf, .int .i64 xk] 34) := ⟨_, rfl⟩
                    rw [← hW0]
                    rw [← hW0] at LB DB
                    clear hW0 x0 x1 x2 x3 b0' b1' b2' b3'
                    with_reducible refine (sw_act DB.out.s xt xo xf xk HXO.out.2.1 HXO.out.2.2.1 HXO.out.2.2.2 (by have := HH.out; omega)).mono ?_
                    rintro e w3 ⟨rfl, hs, hf⟩
                    have S3 := Lib.hid hs
                    have F3 := Lib.hid hf
                    have LB3 := Lib.hid (hf.lies LB.out HNM.out)
                    have R3 := Lib.hid (DB.out.ra.frm hf DB.out.lo.2)
                    clear hs hf
                    obtain ⟨x0, x1, x2, x3⟩ := LB3.out.cells4
                    have HB3 : Hid (B ≤ w3.heap.size) := Lib.hid (Nat.le_trans DB.out.hB.2 F3.out.size)
                    have HRB := Lib.hid (rbook_any B g vF vL r xo xf xk w3 R3.out (DB.out.rel.fok DB.out.s.inv) (DB.out.rel.sumok DB.out.s.inv (by have := HH.out; omega)) HB3.out HXO.out.2.2.1 HXO.out.2.2.2)
                    go_wp2_with fail
                    with_reducible refine HRB.out.mono ?_
                    rintro e w4 ⟨rfl, vL4, hr, hf⟩
                    have D4 := Lib.hid (DB.out.act (a := ⟨xt, xo, xf, xk⟩) S3.out F3.out hr hf (rs_bk HBK.out))
                    rw [DB.out.rel.bookD DB.out.s.inv]
                    have ea : actD q ⟨xt, xo, xf, xk⟩ = dayI (bookD q xo xf xk) := by unfold actD; dsimp only; rw [if_pos HBK.out]
                    have ev : actV q ⟨xt, xo, xf, xk⟩ = (bookD q xo xf xk).isSome := by unfold actV; dsimp only; rw [if_pos HBK.out]
                    rw [ea, ev]
                    clear ea ev hr hf
                    obtain ⟨uu, huu⟩ : ∃ z, dayI (bookD q xo xf xk) = z := ⟨_, rfl⟩
                    obtain ⟨vv, hvv⟩ : ∃ z, verd (bookD q xo xf xk).isSome = z := ⟨_, rfl⟩
                    rw [huu, hvv]
                    clear huu hvv
                    clear x0 x1 x2 x3 LB LB3 R3 S3 F3
                    have HH4 : Hid ((actS q ⟨xt, xo, xf, xk⟩).H.length ≤ j + 1) := Lib.hid (by have := (actS_len q ⟨xt, xo, xf, xk⟩).1; have := HH.out; omega)
                    obtain ⟨qq, hqq⟩ : ∃ z, actS q ⟨xt, xo, xf, xk⟩ = z := ⟨_, rfl⟩
                    obtain ⟨rr, hrr⟩ : ∃ z, rstep r ⟨xt, xo, xf, xk⟩ = z := ⟨_, rfl⟩
                    rw [hqq] at D4 HH4
                    rw [hrr] at D4
                    clear hqq hrr
                    obtain ⟨Y, hY⟩ : ∃ z, w4 = z := ⟨_, rfl⟩
                    rw [hY] at D4 ⊢
                    clear hY
                    go_wp2_with fail
                    with_reducible refine (bks_any b qq Y D4.out.s.ok D4.out.s.inv.hs (by have := HH4.out; omega)).mono ?_
                    rintro e w5 ⟨v17, rfl, ho, hb⟩
                    have R5 := Lib.hid ho
                    have D5 := Lib.hid (D4.out.below hb)
                    have B5 := Lib.hid hb
                    clear ho hb
                    have e20 : ∀ z : Int, ((z != z) : Bool) = false := fun z => by simp
                    go_wp2_with fail
                    with_reducible refine (rbks_any B g vF vL4 rr qq.H w5 D5.out.ra D5.out.s.inv.hs D5.out.rel.p (fun y hy => by rw [D5.out.rel.f]; exact (D5.out.s.inv.hh y hy).2.2.2.1) (by rw [D5.out.rel.f]; have := D5.out.s.inv.fz; omega) (by have := HH4.out; omega)).mono ?_
                    rintro e w9 ⟨vy, rfl, ho, hb⟩
                    have RX := Lib.hid ho
                    have R9 := Lib.hid (R5.out.below hb)
                    have D9 := Lib.hid (D5.out.below hb)
                    have B9 := Lib.hid (B5.out.trans (hb.mono B5.out.size))
                    clear ho hb
                    go_wp2_with fail
                    with_reducible refine (sameH_own Y.heap.size w5.heap.size v17 vy qq.H w9 R9.out RX.out (by have := HH4.out; omega)).mono ?_
                    rintro e w10 ⟨rfl, hb⟩
                    have R10 := Lib.hid (R9.out.below hb)
                    have D10 := Lib.hid (D9.out.below hb)
                    have B10 := Lib.hid (B9.out.trans (hb.mono B9.out.size))
                    clear hb
                    have hhz : (qq.H.length : Int) ≤ 121 := by have := HH4.out; omega
                    have CR := Lib.hid (fun d : Int => room_same b qq d w10 D10.out.s.ok D10.out.s.fl)
                    have CX := Lib.hid (fun d : Int => rroom_any B g vF vL4 rr d w10 D10.out.ra (D10.out.rel.fok D10.out.s.inv) (D10.out.rel.sumok D10.out.s.inv (by have := HH4.out; omega)))
                    have HRR := Lib.hid (fun d : Int => D10.out.rel.room D10.out.s.inv d)
                    go_wp2_with fail
                    clear e20
                    go_loop [18] (fun v18 => DoN n v18) (fun i => n + 2 - (intOf i + 1).toNat)
                    case atStart => exact ⟨0, by omega, by go_num⟩
                    case round =>
                      obtain ⟨k, hk, rfl⟩ := hrel
                      by_cases hkn : k < n + 2
                      · have hkn2 : (k : Int) - 1 ≤ (n : Int) := by omega
                        have C1 := CR.out ((k : Int) - 1)
                        have C2 := CX.out ((k : Int) - 1)
                        rw [HRR.out] at C2
                        obtain ⟨z, hz⟩ : ∃ z, roomI qq.F ((k : Int) - 1) = z := ⟨_, rfl⟩
                        rw [hz] at C1 C2
                        have HC1 := Lib.hid C1
                        have HC2 := Lib.hid C2
                        clear hz C1 C2
                        have e21 : ((z != z) : Bool) = false := by simp
                        go_wp2_with fail
                        with_reducible refine HC1.out.mono ?_
                        rintro e wa ⟨rfl, ha⟩
                        subst ha
                        go_wp2_with fail
                        with_reducible refine HC2.out.mono ?_
                        rintro e wa ⟨rfl, ha⟩
                        subst ha
                        go_wp2
                        go_round
                        case rel => exact ⟨k + 1, by omega, by go_num⟩
                        case measure => simp [intOf]; omega
                      · have hkn2 : decide ((k : Int) - 1 ≤ (n : Int)) = false := by simp; omega
                        have RC := Lib.hid R10.out.roww
                        have BC := B10
                        obtain ⟨A17, c17, rfl, -, -⟩ := R10.out.hin
                        clear R5 R9 R10 D5 D9 D10 B5 B9 B10 RX CR CX HRR
                        obtain ⟨n6, hn6⟩ : ∃ z, qq.H.length = z := ⟨_, rfl⟩
                        rw [hn6] at RC hhz ⊢
                        clear hn6
                        go_wp2_with fail
                        go_loopw [19] (fun v19 wr => DoM Y (.slice A17 n6 c17) n6 v19 wr) (fun i _ => n6 - (intOf i).toNat)
                        case atStart => exact ⟨0, by omega, rfl, BC.out, RC.out⟩
                        case round =>
                          clear RC BC hkn hk hkn2
                          obtain ⟨k, hk, rfl, hb, hr⟩ := hrel
                          have HB8 := Lib.hid hb
                          have HR8 := Lib.hid hr
                          clear hb hr
                          by_cases hk1 : k < n6
                          · have hk2 : (k : Int) < (n6 : Int) := by omega
                            rcases HR8.out with h | ⟨g5, o5, cc, cs5, e5, hg5, hL5, hs5⟩
                            · omega
                            injection e5 with q1 q2 q3
                            subst q1 q3
                            have HL5 := Lib.hid hL5
                            clear hL5 q2
                            go_wp2_with (first | ((with_reducible refine wpl_putC none _ _ _ 3 (.tmp 146) (.const (.int .i64 (-7))) g5 (o5 + k * 3 + 2) 44 cs5 (.int .i64 (-7)) ?px ?py HL5.out ?pi ?ps rfl ?_); (case px => rfl); (case py => rfl); (case pi => omega); (case ps => kernel_rfl); (intro w8 hp8; (have HP8 := Lib.hid hp8); clear hp8)))
                            go_roundw
                            case rel => exact ⟨k + 1, by omega, by go_num, HB8.out.grown HP8.out.grown HB8.out.size (fun z hz => by injection hz with hz; omega), .inr ⟨g5, o5, _, _, rfl, hg5, HP8.out.lies, by simp; omega⟩⟩
                            case measure => simp [intOf]; omega
                          · have hk2 : decide ((k : Int) < (n6 : Int)) = false := by simp; omega
                            go_wp2_with fail
                            go_roundw
                            case rel => exact ⟨j + 1, qq, vF, vL4, rr, by omega, by omega, by go_num, D4.out.below HB8.out, HH4.out⟩
                            case measure => simp [intOf]; omega
                  · have t1' : decide (xt ≤ 2) = false := by simpa using t1
                    have HBK : Hid (¬ isBk xt = true) := Lib.hid (by unfold isBk; rw [t0', t1']; decide)
                    have LB : Hid (Lies (wr.alloc (.cells #[.int .i64 xt, .int .u32 (xo : Int), .int .i64 xf, .int .i64 xk] 34)) wr.heap.size 34 #[.int .i64 xt, .int .u32 (xo : Int), .int .i64 xf, .int .i64 xk]) := Lib.hid (Lies.made _ _ _)
                    have DB := Lib.hid (D_2.out.below (below1 wr (.cells #[.int .i64 xt, .int .u32 (xo : Int), .int .i64 xf, .int .i64 xk] 34)))
                    have HNM : Hid (¬ b.isMap wr.heap.size) := Lib.hid (fun hm => Nat.lt_irrefl _ (D_2.out.s.ok.map_lt hm))
                    obtain ⟨b0', b1', b2', b3'⟩ := LB.out.cells4
                    go_wp2_with fail
                    obtain ⟨W0, hW0⟩ : ∃ W, W = wr.alloc (.cells #[.int .i64 xt, .int .u32 (xo : Int), .int .i64 xf, .int .i64 xk] 34) := ⟨_, rfl⟩
                    rw [← hW0]
                    rw [← hW0] at LB DB
                    clear hW0 x0 x1 x2 x3 b0' b1' b2' b3'
                    with_reducible refine (sw_act DB.out.s xt xo xf xk HXO.out.2.1 HXO.out.2.2.1 HXO.out.2.2.2 (by have := HH.out; omega)).mono ?_
                    rintro e w3 ⟨rfl, hs, hf⟩
                    have S3 := Lib.hid hs
                    have F3 := Lib.hid hf
                    have LB3 := Lib.hid (hf.lies LB.out HNM.out)
                    have R3 := Lib.hid (DB.out.ra.frm hf DB.out.lo.2)
                    clear hs hf
                    obtain ⟨x0, x1, x2, x3⟩ := LB3.out.cells4
                    have HB3 : Hid (B ≤ w3.heap.size) := Lib.hid (Nat.le_trans DB.out.hB.2 F3.out.size)
                    go_wp2_with fail
                    with_reducible refine (rcanc_any B g vF vL r xo w3 R3.out (by rw [← DB.out.rel.p.length_eq]; have := HH.out; omega) HB3.out).mono ?_
                    rintro e w4 ⟨rfl, vL4, hr, hf⟩
                    have D4 := Lib.hid (DB.out.act (a := ⟨xt, xo, xf, xk⟩) S3.out F3.out hr hf (rs_ca HBK.out))
                    rw [DB.out.rel.cancV DB.out.s.inv]
                    have ea : actD q ⟨xt, xo, xf, xk⟩ = 0 := by unfold actD; dsimp only; rw [if_neg HBK.out]
                    have ev : actV q ⟨xt, xo, xf, xk⟩ = (findH q.H xo).isSome := by unfold actV; dsimp only; rw [if_neg HBK.out]
                    rw [ea, ev]
                    clear ea ev hr hf
                    obtain ⟨vv, hvv⟩ : ∃ z, verd (findH q.H xo).isSome = z := ⟨_, rfl⟩
                    rw [hvv]
                    clear hvv
                    clear x0 x1 x2 x3 LB LB3 R3 S3 F3
                    have HH4 : Hid ((actS q ⟨xt, xo, xf, xk⟩).H.length ≤ j + 1) := Lib.hid (by have := (actS_len q ⟨xt, xo, xf, xk⟩).1; have := HH.out; omega)
                    obtain ⟨qq, hqq⟩ : ∃ z, actS q ⟨xt, xo, xf, xk⟩ = z := ⟨_, rfl⟩
                    obtain ⟨rr, hrr⟩ : ∃ z, rstep r ⟨xt, xo, xf, xk⟩ = z := ⟨_, rfl⟩
                    rw [hqq] at D4 HH4
                    rw [hrr] at D4
                    clear hqq hrr
                    obtain ⟨Y, hY⟩ : ∃ z, w4 = z := ⟨_, rfl⟩
                    rw [hY] at D4 ⊢
                    clear hY
                    go_wp2_with fail
                    with_reducible refine (bks_any b qq Y D4.out.s.ok D4.out.s.inv.hs (by have := HH4.out; omega)).mono ?_
                    rintro e w5 ⟨v17, rfl, ho, hb⟩
                    have R5 := Lib.hid ho
                    have D5 := Lib.hid (D4.out.below hb)
                    have B5 := Lib.hid hb
                    clear ho hb
                    have e20 : ∀ z : Int, ((z != z) : Bool) = false := fun z => by simp
                    go_wp2_with fail
                    with_reducible refine (rbks_any B g vF vL4 rr qq.H w5 D5.out.ra D5.out.s.inv.hs D5.out.rel.p (fun y hy => by rw [D5.out.rel.f]; exact (D5.out.s.inv.hh y hy).2.2.2.1) (by rw [D5.out.rel.f]; have := D5.out.s.inv.fz; omega) (by have := HH4.out; omega)).mono ?_
                    rintro e w9 ⟨vy, rfl, ho, hb⟩
                    have RX := Lib.hid ho
                    have R9 := Lib.hid (R5.out.below hb)
                    have D9 := Lib.hid (D5.out.below hb)
                    have B9 := Lib.hid (B5.out.trans (hb.mono B5.out.size))
                    clear ho hb
                    go_wp2_with fail
                    with_reducible refine (sameH_own Y.heap.size w5.heap.size v17 vy qq.H w9 R9.out RX.out (by have := HH4.out; omega)).mono ?_
                    rintro e w10 ⟨rfl, hb⟩
                    have R10 := Lib.hid (R9.out.below hb)
                    have D10 := Lib.hid (D9.out.below hb)
                    have B10 := Lib.hid (B9.out.trans (hb.mono B9.out.size))
                    clear hb
                    have hhz : (qq.H.length : Int) ≤ 121 := by have := HH4.out; omega
                    have CR := Lib.hid (fun d : Int => room_same b qq d w10 D10.out.s.ok D10.out.s.fl)
                    have CX := Lib.hid (fun d : Int => rroom_any B g vF vL4 rr d w10 D10.out.ra (D10.out.rel.fok D10.out.s.inv) (D10.out.rel.sumok D10.out.s.inv (by have := HH4.out; omega)))
                    have HRR := Lib.hid (fun d : Int => D10.out.rel.room D10.out.s.inv d)
                    go_wp2_with fail
                    clear e20
                    go_loop [18] (fun v18 => DoN n v18) (fun i => n + 2 - (intOf i + 1).toNat)
                    case atStart => exact ⟨0, by omega, by go_num⟩
                    case round =>
                      obtain ⟨k, hk, rfl⟩ := hrel
                      by_cases hkn : k < n + 2
                      · have hkn2 : (k : Int) - 1 ≤ (n : Int) := by omega
                        have C1 := CR.out ((k : Int) - 1)
                        have C2 := CX.out ((k : Int) - 1)
                        rw [HRR.out] at C2
                        obtain ⟨z, hz⟩ : ∃ z, roomI qq.F ((k : Int) - 1) = z := ⟨_, rfl⟩
                        rw [hz] at C1 C2
                        have HC1 := Lib.hid C1
                        have HC2 := Lib.hid C2
                        clear hz C1 C2
                        have e21 : ((z != z) : Bool) = false := by simp
                        go_wp2_with fail
                        with_reducible refine HC1.out.mono ?_
                        rintro e wa ⟨rfl, ha⟩
                        subst ha
                        go_wp2_with fail
                        with_reducible refine HC2.out.mono ?_
                        rintro e wa ⟨rfl, ha⟩
                        subst ha
                        go_wp2
                        go_round
                        case rel => exact ⟨k + 1, by omega, by go_num⟩
                        case measure => simp [intOf]; omega
                      · have hkn2 : decide ((k : Int) - 1 ≤ (n : Int)) = false := by simp; omega
                        have RC := Lib.hid R10.out.roww
                        have BC := B10
                        obtain ⟨A17, c17, rfl, -, -⟩ := R10.out.hin
                        clear R5 R9 R10 D5 D9 D10 B5 B9 B10 RX CR CX HRR
                        obtain ⟨n6, hn6⟩ : ∃ z, qq.H.length = z := ⟨_, rfl⟩
                        rw [hn6] at RC hhz ⊢
                        clear hn6
                        go_wp2_with fail
                        go_loopw [19] (fun v19 wr => DoM Y (.slice A17 n6 c17) n6 v19 wr) (fun i _ => n6 - (intOf i).toNat)
                        case atStart => exact ⟨0, by omega, rfl, BC.out, RC.out⟩
                        case round =>
                          clear RC BC hkn hk hkn2
                          obtain ⟨k, hk, rfl, hb, hr⟩ := hrel
                          have HB8 := Lib.hid hb
                          have HR8 := Lib.hid hr
                          clear hb hr
                          by_cases hk1 : k < n6
                          · have hk2 : (k : Int) < (n6 : Int) := by omega
                            rcases HR8.out with h | ⟨g5, o5, cc, cs5, e5, hg5, hL5, hs5⟩
                            · omega
                            injection e5 with q1 q2 q3
                            subst q1 q3
                            have HL5 := Lib.hid hL5
                            clear hL5 q2
                            go_wp2_with (first | ((with_reducible refine wpl_putC none _ _ _ 3 (.tmp 146) (.const (.int .i64 (-7))) g5 (o5 + k * 3 + 2) 44 cs5 (.int .i64 (-7)) ?px ?py HL5.out ?pi ?ps rfl ?_); (case px => rfl); (case py => rfl); (case pi => omega); (case ps => kernel_rfl); (intro w8 hp8; (have HP8 := Lib.hid hp8); clear hp8)))
                            go_roundw
                            case rel => exact ⟨k + 1, by omega, by go_num, HB8.out.grown HP8.out.grown HB8.out.size (fun z hz => by injection hz with hz; omega), .inr ⟨g5, o5, _, _, rfl, hg5, HP8.out.lies, by simp; omega⟩⟩
                            case measure => simp [intOf]; omega
                          · have hk2 : decide ((k : Int) < (n6 : Int)) = false := by simp; omega
                            go_wp2_with fail
                            go_roundw
                            case rel => exact ⟨j + 1, qq, vF, vL4, rr, by omega, by omega, by go_num, D4.out.below HB8.out, HH4.out⟩
                            case measure => simp [intOf]; omega
                · have t0' : decide (0 ≤ xt) = false := by simpa using t0
                  have HBK : Hid (¬ isBk xt = true) := Lib.hid (by unfold isBk; rw [t0']; simp)
                  have LB : Hid (Lies (wr.alloc (.cells #[.int .i64 xt, .int .u32 (xo : Int), .int .i64 xf, .int .i64 xk] 34)) wr.heap.size 34 #[.int .i64 xt, .int .u32 (xo : Int), .int .i64 xf, .int .i64 xk]) := Lib.hid (Lies.made _ _ _)
                  have DB := Lib.hid (D_2.out.below (below1 wr (.cells #[.int .i64 xt, .int .u32 (xo : Int), .int .i64 xf, .int .i64 xk] 34)))
                  have HNM : Hid (¬ b.isMap wr.heap.size) := Lib.hid (fun hm => Nat.lt_irrefl _ (D_2.out.s.ok.map_lt hm))
                  obtain ⟨b0', b1', b2', b3'⟩ := LB.out.cells4
                  go_wp2_with fail
                  obtain ⟨W0, hW0⟩ : ∃ W, W = wr.alloc (.cells #[.int .i64 xt, .int .u32 (xo : Int), .int .i64 xf, .int .i64 xk] 34) := ⟨_, rfl⟩
                  rw [← hW0]
                  rw [← hW0] at LB DB
                  clear hW0 x0 x1 x2 x3 b0' b1' b2' b3'
                  with_reducible refine (sw_act DB.out.s xt xo xf xk HXO.out.2.1 HXO.out.2.2.1 HXO.out.2.2.2 (by have := HH.out; omega)).mono ?_
                  rintro e w3 ⟨rfl, hs, hf⟩
                  have S3 := Lib.hid hs
                  have F3 := Lib.hid hf
                  have LB3 := Lib.hid (hf.lies LB.out HNM.out)
                  have R3 := Lib.hid (DB.out.ra.frm hf DB.out.lo.2)
                  clear hs hf
                  obtain ⟨x0, x1, x2, x3⟩ := LB3.out.cells4
                  have HB3 : Hid (B ≤ w3.heap.size) := Lib.hid (Nat.le_trans DB.out.hB.2 F3.out.size)
                  go_wp2_with fail
                  with_reducible refine (rcanc_any B g vF vL r xo w3 R3.out (by rw [← DB.out.rel.p.length_eq]; have := HH.out; omega) HB3.out).mono ?_
                  rintro e w4 ⟨rfl, vL4, hr, hf⟩
                  have D4 := Lib.hid (DB.out.act (a := ⟨xt, xo, xf, xk⟩) S3.out F3.out hr hf (rs_ca HBK.out))
                  rw [DB.out.rel.cancV DB.out.s.inv]
                  have ea : actD q ⟨xt, xo, xf, xk⟩ = 0 := by unfold actD; dsimp only; rw [if_neg HBK.out]
                  have ev : actV q ⟨xt, xo, xf, xk⟩ = (findH q.H xo).isSome := by unfold actV; dsimp only; rw [if_neg HBK.out]
                  rw [ea, ev]
                  clear ea ev hr hf
                  obtain ⟨vv, hvv⟩ : ∃ z, verd (findH q.H xo).isSome = z := ⟨_, rfl⟩
                  rw [hvv]
                  clear hvv
                  clear x0 x1 x2 x3 LB LB3 R3 S3 F3
                  have HH4 : Hid ((actS q ⟨xt, xo, xf, xk⟩).H.length ≤ j + 1) := Lib.hid (by have := (actS_len q ⟨xt, xo, xf, xk⟩).1; have := HH.out; omega)
                  obtain ⟨qq, hqq⟩ : ∃ z, actS q ⟨xt, xo, xf, xk⟩ = z := ⟨_, rfl⟩
                  obtain ⟨rr, hrr⟩ : ∃ z, rstep r ⟨xt, xo, xf, xk⟩ = z := ⟨_, rfl⟩
                  rw [hqq] at D4 HH4
                  rw [hrr] at D4
                  clear hqq hrr
                  obtain ⟨Y, hY⟩ : ∃ z, w4 = z := ⟨_, rfl⟩
                  rw [hY] at D4 ⊢
                  clear hY
                  go_wp2_with fail
                  with_reducible refine (bks_any b qq Y D4.out.s.ok D4.out.s.inv.hs (by have := HH4.out; omega)).mono ?_
                  rintro e w5 ⟨v17, rfl, ho, hb⟩
                  have R5 := Lib.hid ho
                  have D5 := Lib.hid (D4.out.below hb)
                  have B5 := Lib.hid hb
                  clear ho hb
                  have e20 : ∀ z : Int, ((z != z) : Bool) = false := fun z => by simp
                  go_wp2_with fail
                  with_reducible refine (rbks_any B g vF vL4 rr qq.H w5 D5.out.ra D5.out.s.inv.hs D5.out.rel.p (fun y hy => by rw [D5.out.rel.f]; exact (D5.out.s.inv.hh y hy).2.2.2.1) (by rw [D5.out.rel.f]; have := D5.out.s.inv.fz; omega) (by have := HH4.out; omega)).mono ?_
                  rintro e w9 ⟨vy, rfl, ho, hb⟩
                  have RX := Lib.hid ho
                  have R9 := Lib.hid (R5.out.below hb)
                  have D9 := Lib.hid (D5.out.below hb)
                  have B9 := Lib.hid (B5.out.trans (hb.mono B5.out.size))
                  clear ho hb
                  go_wp2_with fail
                  with_reducible refine (sameH_own Y.heap.size w5.heap.size v17 vy qq.H w9 R9.out RX.out (by have := HH4.out; omega)).mono ?_
                  rintro e w10 ⟨rfl, hb⟩
                  have R10 := Lib.hid (R9.out.below hb)
                  have D10 := Lib.hid (D9.out.below hb)
                  have B10 := Lib.hid (B9.out.trans (hb.mono B9.out.size))
                  clear hb
                  have hhz : (qq.H.length : Int) ≤ 121 := by have := HH4.out; omega
                  have CR := Lib.hid (fun d : Int => room_same b qq d w10 D10.out.s.ok D10.out.s.fl)
                  have CX := Lib.hid (fun d : Int => rroom_any B g vF vL4 rr d w10 D10.out.ra (D10.out.rel.fok D10.out.s.inv) (D10.out.rel.sumok D10.out.s.inv (by have := HH4.out; omega)))
                  have HRR := Lib.hid (fun d : Int => D10.out.rel.room D10.out.s.inv d)
                  go_wp2_with fail
                  clear e20
                  go_loop [18] (fun v18 => DoN n v18) (fun i => n + 2 - (intOf i + 1).toNat)
                  case atStart => exact ⟨0, by omega, by go_num⟩
                  case round =>
                    obtain ⟨k, hk, rfl⟩ := hrel
                    by_cases hkn : k < n + 2
                    · have hkn2 : (k : Int) - 1 ≤ (n : Int) := by omega
                      have C1 := CR.out ((k : Int) - 1)
                      have C2 := CX.out ((k : Int) - 1)
                      rw [HRR.out] at C2
                      obtain ⟨z, hz⟩ : ∃ z, roomI qq.F ((k : Int) - 1) = z := ⟨_, rfl⟩
                      rw [hz] at C1 C2
                      have HC1 := Lib.hid C1
                      have HC2 := Lib.hid C2
                      clear hz C1 C2
                      have e21 : ((z != z) : Bool) = false := by simp
                      go_wp2_with fail
                      with_reducible refine HC1.out.mono ?_
                      rintro e wa ⟨rfl, ha⟩
                      subst ha
                      go_wp2_with fail
                      with_reducible refine HC2.out.mono ?_
                      rintro e wa ⟨rfl, ha⟩
                      subst ha
                      go_wp2
                      go_round
                      case rel => exact ⟨k + 1, by omega, by go_num⟩
                      case measure => simp [intOf]; omega
                    · have hkn2 : decide ((k : Int) - 1 ≤ (n : Int)) = false := by simp; omega
                      have RC := Lib.hid R10.out.roww
                      have BC := B10
                      obtain ⟨A17, c17, rfl, -, -⟩ := R10.out.hin
                      clear R5 R9 R10 D5 D9 D10 B5 B9 B10 RX CR CX HRR
                      obtain ⟨n6, hn6⟩ : ∃ z, qq.H.length = z := ⟨_, rfl⟩
                      rw [hn6] at RC hhz ⊢
                      clear hn6
                      go_wp2_with fail
                      go_loopw [19] (fun v19 wr => DoM Y (.slice A17 n6 c17) n6 v19 wr) (fun i _ => n6 - (intOf i).toNat)
                      case atStart => exact ⟨0, by omega, rfl, BC.out, RC.out⟩
                      case round =>
                        clear RC BC hkn hk hkn2
                        obtain ⟨k, hk, rfl, hb, hr⟩ := hrel
                        have HB8 := Lib.hid hb
                        have HR8 := Lib.hid hr
                        clear hb hr
                        by_cases hk1 : k < n6
                        · have hk2 : (k : Int) < (n6 : Int) := by omega
                          rcases HR8.out with h | ⟨g5, o5, cc, cs5, e5, hg5, hL5, hs5⟩
                          · omega
                          injection e5 with q1 q2 q3
                          subst q1 q3
                          have HL5 := Lib.hid hL5
                          clear hL5 q2
                          go_wp2_with (first | ((with_reducible refine wpl_putC none _ _ _ 3 (.tmp 146) (.const (.int .i64 (-7))) g5 (o5 + k * 3 + 2) 44 cs5 (.int .i64 (-7)) ?px ?py HL5.out ?pi ?ps rfl ?_); (case px => rfl); (case py => rfl); (case pi => omega); (case ps => kernel_rfl); (intro w8 hp8; (have HP8 := Lib.hid hp8); clear hp8)))
                          go_roundw
                          case rel => exact ⟨k + 1, by omega, by go_num, HB8.out.grown HP8.out.grown HB8.out.size (fun z hz => by injection hz with hz; omega), .inr ⟨g5, o5, _, _, rfl, hg5, HP8.out.lies, by simp; omega⟩⟩
                          case measure => simp [intOf]; omega
                        · have hk2 : decide ((k : Int) < (n6 : Int)) = false := by simp; omega
                          go_wp2_with fail
                          go_roundw
                          case rel => exact ⟨j + 1, qq, vF, vL4, rr, by omega, by omega, by go_num, D4.out.below HB8.out, HH4.out⟩
                          case measure => simp [intOf]; omega
              · have e2 : decide ((j : Int) < 100) = false := by simp; omega
                go_wp2_with fail
                with_reducible refine (HK.out _).mono ?_
                rintro e w9 ⟨rfl, hb⟩
                have S_9 := Lib.hid (D_2.out.s.below hb)
                clear hb
                go_wp2
                go_ret
                exact ⟨rfl, S_9.out.bel⟩
            · have hnl : decide ((j : Int) < (m : Int)) = false := by simp; omega
              go_wp2_with fail
              with_reducible refine (HK.out _).mono ?_
              rintro e w9 ⟨rfl, hb⟩
              have S_9 := Lib.hid (D_2.out.s.below hb)
              clear hb
              go_wp2
              go_ret
              exact ⟨rfl, S_9.out.bel⟩

end Go.Proofs.Ytnajombhlmbopaa
