/-
  The walk of PurseDoes.
-/
import Derived.Test.YtlgdjmmhdfpfeaaDoesP
import Derived.Test.YtlgdjmmhdfpfeaaLawB
namespace Go.Proofs.Ytlgdjmmhdfpfeaa
open Go.Proofs Go.RowKit
set_option maxRecDepth 100000
set_option linter.unusedVariables false
set_option linter.unusedSimpArgs false

def DoR (w : World) (a : List Ac) (b : SB) (B g : Nat) (v9 : Value) (wr : World) : Prop := ∃ (j : Nat) (q : Ss) (vF vL : Value) (r : Rs), j ≤ a.length ∧ j ≤ 120 ∧ v9 = .int .i64 (j : Int) ∧ DW w wr b q B g vF vL r ∧ q.H.length ≤ j
def DoK (Y : World) (v13 v14 : Value) (n5 n6 : Nat) (v15 : Value) (wr : World) : Prop := ∃ k : Nat, k ≤ n5 ∧ v15 = .int .i64 (k : Int) ∧ Below Y.heap.size Y wr ∧ RowW wr Y.heap.size 46 3 v13 n5 ∧ RowW wr Y.heap.size 48 4 v14 n6
def DoM (Y : World) (v14 : Value) (n6 : Nat) (v16 : Value) (wr : World) : Prop := ∃ k : Nat, k ≤ n6 ∧ v16 = .int .i64 (k : Int) ∧ Below Y.heap.size Y wr ∧ RowW wr Y.heap.size 48 4 v14 n6
theorem rsh {r : Rs} {t : Int} {o : Nat} {x : List UInt8} {n : Int} (h : t = 0 ∨ t = 1) : rauthS r o x n = rstep r ⟨t, o, x, n⟩ ∧ rauthV r o x n = rstepV r ⟨t, o, x, n⟩ := by
  unfold rstep rstepV
  dsimp only
  rw [if_pos h, if_pos h]
  exact ⟨rfl, rfl⟩
theorem rst {r : Rs} {t : Int} {o : Nat} {x : List UInt8} {n : Int} {c f u : Nat} (h : ¬ (t = 0 ∨ t = 1)) (hc : wayOf t = c) (hf : frS c = f) (hu : toS c = u) : rturnS r o f u = rstep r ⟨t, o, x, n⟩ ∧ rturnV r o f = rstepV r ⟨t, o, x, n⟩ := by
  unfold rstep rstepV
  dsimp only
  rw [if_neg h, if_neg h, hc, hf, hu]
  exact ⟨rfl, rfl⟩

set_option maxHeartbeats 16000000 in
theorem purseDoes_walk (A : Option Addr) (n c : Nat) (l : List Kd) (B : Option Addr) (m d : Nat) (a : List Ac)  (w : World) (hG : Gin w A n l) (hn : n ≤ maxLen) (hL : GoodsOk l) (hA : Ain w B m a) (hm : m ≤ maxLen) (hAO : ActsOk a) 
    (KN : ∀ W, Calls Try.prog 10 #[] W fun e w' => e = .returned (.bool true) ∧ Below W.heap.size W w') :
    Calls Try.prog 3 #[.slice A n c, .slice B m d] w fun e w' => e = .returned (.bool true) ∧ Below w.heap.size w w' := by
  have HG := Lib.hid hG
  have HA := Lib.hid hA
  have HL := Lib.hid hL
  have HAO := Lib.hid hAO
  have HN := Lib.hid hG.1
  have HM := Lib.hid hA.1
  have HK := Lib.hid KN
  have HC := Lib.hid (long_any A n c l B m d a w hG hA hm hn)
  have hmm : (m : Int) ≤ 9223372036854775807 := by unfold maxLen at hm; omega
  clear hG hA hL hAO KN hm
  go_enter Try.func3, Try.ntmps3
  go_wp2_with fail
  with_reducible refine HC.out.mono ?_
  rintro e w1 ⟨rfl, rfl | ⟨rfl, hs⟩⟩
  · go_wp2_with fail
    with_reducible refine (HK.out _).mono ?_
    rintro e w2 ⟨rfl, hb⟩
    have HB := Lib.hid hb
    clear hb
    go_wp2
    go_ret
    exact ⟨rfl, HB.out⟩
  · have HS := Lib.hid hs
    have hn2 : n ≤ 200 := by have := hs.1; have := HN.out; omega
    clear hs HC hn
    go_wp2_with fail
    with_reducible refine (sw_new (Below.refl _ _) A n c l HG.out (by omega) HS.out.names).mono ?_
    rintro e w1 ⟨hb, ⟨h1, rfl⟩ | ⟨K, b, h1, rfl, hs, -⟩⟩
    · have HB := Lib.hid hb
      have HN1 := Lib.hid h1
      clear hb h1
      go_wp2_with fail
      with_reducible refine (rnew_any A n c l w1 (HG.out.below HB.out) (by omega)).mono ?_
      rintro e w2 ⟨hb, ⟨-, rfl⟩ | ⟨K2, g, vF, vL, h2, -⟩⟩
      · have HB1 := Lib.hid (HB.out.trans (hb.mono HB.out.size))
        clear hb
        go_wp2_with fail
        with_reducible refine (HK.out _).mono ?_
        rintro e w3 ⟨rfl, hb⟩
        have HB2 := Lib.hid (HB1.out.trans (hb.mono HB1.out.size))
        clear hb
        go_wp2
        go_ret
        exact ⟨rfl, HB2.out⟩
      · rw [HN1.out] at h2
        cases h2
    · have S_1 := Lib.hid hs
      have HNO := Lib.hid h1
      have HNW := Lib.hid (newOf_some h1).2.2
      clear hb h1 hs
      go_wp2_with fail
      with_reducible refine (rnew_any A n c l w1 (HG.out.below (S_1.out.bel)) (by omega)).mono ?_
      rintro e w2 ⟨hb, ⟨h1', -⟩ | ⟨K2, g, vF, vL, h2, rfl, hr⟩⟩
      · rw [HNO.out] at h1'; cases h1'
      obtain rfl : K = K2 := by have := HNO.out.symm.trans h2; injection this
      have hD : DW w w2 b ⟨K, []⟩ w1.heap.size g vF vL ⟨K, []⟩ := ⟨S_1.out.below hb, hr, Rel.start h2, ⟨S_1.out.ok.c.lt, fun i hi => S_1.out.ok.map_lt hi⟩, S_1.out.bel.size, hb.size⟩
      obtain ⟨B, hB⟩ : ∃ B, B = w1.heap.size := ⟨_, rfl⟩
      rw [← hB] at hD
      have D_1 := Lib.hid hD
      clear hD hr hb h2 hB S_1
      go_wp2_with fail
      go_loopw [9] (fun i wr => DoR w a b B g i wr) (fun i _ => 121 - (intOf i).toNat)
      case atStart => exact ⟨0, ⟨K, []⟩, vF, vL, _, by omega, by omega, rfl, D_1.out, Nat.le_refl _⟩
      case round =>
        clear D_1
        obtain ⟨j, q, vF, vL, r, hj, hj2, rfl, hD, hH⟩ := hrel
        have D_2 := Lib.hid hD
        have HH := Lib.hid hH
        clear hD hH
        have hjm : j ≤ m := by have := HM.out; omega
        by_cases hlt : j < m
        · have hlt2 : (j : Int) < (m : Int) := by omega
          by_cases hq3 : j < 120
          · have e2 : decide ((j : Int) < 120) = true := by simp; omega
            have hlt3 : j < a.length := by have := HM.out; omega
            obtain ⟨b0, off, rfl, hbl, hcell⟩ := HA.out.2 (by omega)
            obtain ⟨xx, hxx⟩ : ∃ q, a[j] = q := ⟨_, rfl⟩
            have hcj := hcell j hlt3
            rw [hxx] at hcj
            have HXO := Lib.hid (HAO.out a[j] (List.getElem_mem hlt3))
            rw [hxx] at HXO
            have HCJ := Lib.hid (And.intro hcj hbl)
            clear hcell hxx hcj hbl
            obtain ⟨xt, xo, xn, xk⟩ := xx
            dsimp only at HXO HCJ
            obtain ⟨⟨x0, x1, x2, x3⟩, hbl⟩ := HCJ.out
            rw [← D_2.out.s.bel.cell (p := ⟨b0, off + j * 4, none⟩) hbl] at x0
            rw [← D_2.out.s.bel.cell (p := ⟨b0, off + j * 4 + 1, none⟩) hbl] at x1
            rw [← D_2.out.s.bel.cell (p := ⟨b0, off + j * 4 + 2, none⟩) hbl] at x2
            rw [← D_2.out.s.bel.cell (p := ⟨b0, off + j * 4 + 3, none⟩) hbl] at x3
            clear hbl
            by_cases t0 : xt = 0
            · subst t0
              have LB : Hid (Lies (wr.alloc (.cells #[.int .i64 0, .int .u32 (xo : Int), encStr xn, .int .i64 xk] 35)) wr.heap.size 35 #[.int .i64 0, .int .u32 (xo : Int), encStr xn, .int .i64 xk]) := Lib.hid (Lies.made _ _ _)
              have DB := Lib.hid (D_2.out.below (below1 wr (.cells #[.int .i64 0, .int .u32 (xo : Int), encStr xn, .int .i64 xk] 35)))
              have HNM : Hid (¬ b.isMap wr.heap.size) := Lib.hid (fun hm => Nat.lt_irrefl _ (D_2.out.s.ok.map_lt hm))
              obtain ⟨W0, hW0⟩ : ∃ W, W = wr.alloc (.cells #[.int .i64 0, .int .u32 (xo : Int), encStr xn, .int .i64 xk] 35) := ⟨_, rfl⟩
              go_wp2_with fail
              rw [← hW0]
              rw [← hW0] at LB DB
              clear hW0 x0 x1 x2 x3
              with_reducible refine (sw_act DB.out.s (0) xo xn xk HXO.out.2.1 HXO.out.2.2.1 HXO.out.2.2.2 (by have := HH.out; omega)).mono ?_
              rintro e w3 ⟨rfl, hs, hf⟩
              have S3 := Lib.hid hs
              have F3 := Lib.hid hf
              have LB3 := Lib.hid (hf.lies LB.out HNM.out)
              have R3 := Lib.hid (DB.out.ra.frm hf DB.out.lo.2)
              clear hs hf
              obtain ⟨x0, x1, x2, x3⟩ := LB3.out.cells4
              go_wp2_with fail
              with_reducible refine (rauth_any B g vF vL r xo xn xk w3 R3.out (DB.out.rel.fok DB.out.s.inv) (DB.out.rel.sumok DB.out.s.inv (by have := HH.out; omega)) (Nat.le_trans DB.out.hB.2 F3.out.size)).mono ?_
              rintro e w4 ⟨rfl, vL4, hr, hf⟩
              obtain ⟨es, ev⟩ : rauthS r xo xn xk = rstep r ⟨0, xo, xn, xk⟩ ∧ rauthV r xo xn xk = rstepV r ⟨0, xo, xn, xk⟩ := rsh (.inl rfl)
              have D4 := Lib.hid (DB.out.act (a := ⟨0, xo, xn, xk⟩) S3.out F3.out hr hf es)
              rw [ev, D_2.out.rel.stepV D_2.out.s.inv]
              clear hr hf es ev x0 x1 x2 x3 LB LB3 R3 S3 F3
              have HH4 : Hid ((actS q ⟨0, xo, xn, xk⟩).H.length ≤ j + 1) := Lib.hid (by have := (actS_len q ⟨0, xo, xn, xk⟩).1; have := HH.out; omega)
              obtain ⟨qq, hqq⟩ : ∃ z, actS q ⟨0, xo, xn, xk⟩ = z := ⟨_, rfl⟩
              obtain ⟨rr, hrr⟩ : ∃ z, rstep r ⟨0, xo, xn, xk⟩ = z := ⟨_, rfl⟩
              rw [hqq] at D4 HH4
              rw [hrr] at D4
              clear hqq hrr
              obtain ⟨vv, hvv⟩ : ∃ z, verd (actV q ⟨0, xo, xn, xk⟩) = z := ⟨_, rfl⟩
              rw [hvv]
              clear hvv
              obtain ⟨Y, hY⟩ : ∃ z, w4 = z := ⟨_, rfl⟩
              rw [hY] at D4 ⊢
              clear hY
              go_wp2_with fail
              with_reducible refine (accts_any b qq Y D4.out.s.ok D4.out.s.inv.ks (by have := D4.out.s.inv.kz; omega)).mono ?_
              rintro e w5 ⟨v13, rfl, ho, hb⟩
              have G5 := Lib.hid ho
              have D5 := Lib.hid (D4.out.below hb)
              have B5 := Lib.hid hb
              clear ho hb
              go_wp2_with fail
              with_reducible refine (pays_any b qq w5 D5.out.s.ok D5.out.s.inv (by have := HH4.out; omega)).mono ?_
              rintro e w6 ⟨v14, rfl, ho, hb⟩
              have R6 := Lib.hid (ho.low B5.out.size)
              have G6 := Lib.hid (G5.out.below hb)
              have D6 := Lib.hid (D5.out.below hb)
              have B6 := Lib.hid (B5.out.trans (hb.mono B5.out.size))
              clear ho hb
              go_wp2_with fail
              with_reducible refine (rgoods_any B g vF vL4 rr w6 D6.out.ra (D6.out.rel.fok D6.out.s.inv) (D6.out.rel.sumok D6.out.s.inv (by have := HH4.out; omega))).mono ?_
              rintro e w7 ⟨vx, rfl, ho, hb⟩
              rw [D6.out.rel.goods D6.out.s.inv] at ho
              have GX := Lib.hid ho
              have G7 := Lib.hid (G6.out.below hb)
              have R7 := Lib.hid (R6.out.below hb)
              have D7 := Lib.hid (D6.out.below hb)
              have B7 := Lib.hid (B6.out.trans (hb.mono B6.out.size))
              clear ho hb
              go_wp2_with fail
              with_reducible refine (sameG_own Y.heap.size w6.heap.size v13 vx qq.K w7 G7.out GX.out (by have := D7.out.s.inv.kz; omega)).mono ?_
              rintro e w8 ⟨rfl, hb⟩
              have G8 := Lib.hid (G7.out.below hb)
              have R8 := Lib.hid (R7.out.below hb)
              have D8 := Lib.hid (D7.out.below hb)
              have B8 := Lib.hid (B7.out.trans (hb.mono B7.out.size))
              clear hb
              go_wp2_with fail
              with_reducible refine (rpays_any B g vF vL4 rr qq.H w8 D8.out.ra D8.out.s.inv.hs D8.out.rel.p (fun z hz => (D8.out.s.inv.hh z hz).2.1) (by have := HH4.out; omega)).mono ?_
              rintro e w9 ⟨vy, rfl, ho, hb⟩
              have RX := Lib.hid ho
              have G9 := Lib.hid (G8.out.below hb)
              have R9 := Lib.hid (R8.out.below hb)
              have D9 := Lib.hid (D8.out.below hb)
              have B9 := Lib.hid (B8.out.trans (hb.mono B8.out.size))
              clear ho hb
              go_wp2_with fail
              with_reducible refine (sameH_own Y.heap.size w8.heap.size v14 vy qq.H w9 R9.out RX.out (by have := HH4.out; omega)).mono ?_
              rintro e w10 ⟨rfl, hb⟩
              have G10 := Lib.hid (G9.out.below hb)
              have R10 := Lib.hid (R9.out.below hb)
              have D10 := Lib.hid (D9.out.below hb)
              have B10 := Lib.hid (B9.out.trans (hb.mono B9.out.size))
              clear hb
              go_wp2_with fail
              with_reducible refine (taken_any b qq w10 D10.out.s.ok D10.out.s.inv (by have := HH4.out; omega)).mono ?_
              rintro e w11 ⟨rfl, hb⟩
              have G11 := Lib.hid (G10.out.below hb)
              have R11 := Lib.hid (R10.out.below hb)
              have D11 := Lib.hid (D10.out.below hb)
              have B11 := Lib.hid (B10.out.trans (hb.mono B10.out.size))
              clear hb
              go_wp2_with fail
              with_reducible refine (rtaken_any B g vF vL4 rr w11 D11.out.ra (D11.out.rel.sumok D11.out.s.inv (by have := HH4.out; omega))).mono ?_
              rintro e w12 ⟨rfl, rfl⟩
              rw [← tot_perm D11.out.rel.p 2]
              generalize tot qq.H 2 = tq
              have hkz : (qq.K.length : Int) ≤ 50 := by have := D11.out.s.inv.kz; omega
              have hhz : (qq.H.length : Int) ≤ 121 := by have := HH4.out; omega
              have GC := Lib.hid G11.out.roww
              have RC := Lib.hid R11.out.roww
              have BC := B11
              obtain ⟨A13, c13, rfl, -, -⟩ := G11.out.gin
              obtain ⟨A14, c14, rfl, -, -⟩ := R11.out.hin
              clear G5 G6 G7 G8 G9 G10 G11 R6 R7 R8 R9 R10 R11 D5 D6 D7 D8 D9 D10 D11 B5 B6 B7 B8 B9 B10 B11 GX RX
              obtain ⟨n5, hn5⟩ : ∃ z, qq.K.length = z := ⟨_, rfl⟩
              obtain ⟨n6, hn6⟩ : ∃ z, qq.H.length = z := ⟨_, rfl⟩
              have HN6 := Lib.hid hn6
              rw [hn5] at GC hkz ⊢
              rw [hn6] at RC hhz ⊢
              clear hn5 hn6
              go_wp2_with fail
              go_loopw [15] (fun v15 wr => DoK Y (.slice A13 n5 c13) (.slice A14 n6 c14) n5 n6 v15 wr) (fun i _ => n5 - (intOf i).toNat)
              case atStart => exact ⟨0, by omega, rfl, BC.out, GC.out, RC.out⟩
              case round =>
                clear GC RC BC
                obtain ⟨k, hk, rfl, hb, hg, hr⟩ := hrel
                have HB7 := Lib.hid hb
                have HG7 := Lib.hid hg
                have HR7 := Lib.hid hr
                clear hb hg hr
                by_cases hk1 : k < n5
                · have hk2 : (k : Int) < (n5 : Int) := by omega
                  rcases HG7.out with h | ⟨g5, o5, cc, cs5, e5, hg5, hL5, hs5⟩
                  · omega
                  injection e5 with q1 q2 q3
                  subst q1 q3
                  have HL5 := Lib.hid hL5
                  clear hL5 q2
                  go_wp2_with (first | ((with_reducible refine wpl_putC none _ _ _ 3 (.tmp 132) (.const (.int .i64 (-7))) g5 (o5 + k * 3 + 1) 46 cs5 (.int .i64 (-7)) ?px ?py HL5.out ?pi ?ps rfl ?_); (case px => rfl); (case py => rfl); (case pi => omega); (case ps => kernel_rfl); (intro w8 hp8; (have HP8 := Lib.hid hp8); clear hp8)))
                  go_roundw
                  case rel => exact ⟨k + 1, by omega, by go_num, HB7.out.grown HP8.out.grown HB7.out.size (fun z hz => by injection hz with hz; omega), .inr ⟨g5, o5, _, _, rfl, hg5, HP8.out.lies, by simp; omega⟩, HR7.out.put HL5.out HP8.out (by decide)⟩
                  case measure => simp [intOf]; omega
                · have hk2 : decide ((k : Int) < (n5 : Int)) = false := by simp; omega
                  clear HG7
                  go_wp2_with fail
                  go_loopw [16] (fun v16 wr => DoM Y (.slice A14 n6 c14) n6 v16 wr) (fun i _ => n6 - (intOf i).toNat)
                  case atStart => exact ⟨0, by omega, rfl, HB7.out, HR7.out⟩
                  case round =>
                    clear HB7 HR7 hk hk1 hk2
                    obtain ⟨k, hk, rfl, hb, hr⟩ := hrel
                    have HB8 := Lib.hid hb
                    have HR8 := Lib.hid hr
                    clear hb hr
                    by_cases hk1 : k < n6
                    · have hk2 : (k : Int) < (n6 : Int) := by omega
                      rcases HR8.out with h | ⟨g5, o5, cc, cs5, e5, hg5, hL5, hs5⟩
                      · omega
                      injection e5 with q1 q2 q3
                      subst q1 q3
                      have HL5 := Lib.hid hL5
                      clear hL5 q2
                      go_wp2_with (first | ((with_reducible refine wpl_putC none _ _ _ 3 (.tmp 142) (.const (.int .i64 (-7))) g5 (o5 + k * 4 + 3) 48 cs5 (.int .i64 (-7)) ?px ?py HL5.out ?pi ?ps rfl ?_); (case px => rfl); (case py => rfl); (case pi => omega); (case ps => kernel_rfl); (intro w8 hp8; (have HP8 := Lib.hid hp8); clear hp8)))
                      go_roundw
                      case rel => exact ⟨k + 1, by omega, by go_num, HB8.out.grown HP8.out.grown HB8.out.size (fun z hz => by injection hz with hz; omega), .inr ⟨g5, o5, _, _, rfl, hg5, HP8.out.lies, by simp; omega⟩⟩
                      case measure => simp [intOf]; omega
                    · have hk2 : decide ((k : Int) < (n6 : Int)) = false := by simp; omega
                      go_wp2_with fail
                      go_roundw
                      case rel => exact ⟨j + 1, qq, vF, vL4, rr, by omega, by omega, by go_num, D4.out.below HB8.out, HH4.out⟩
                      case measure => simp [intOf]; omega
            by_cases t1 : xt = 1
            · subst t1
              have LB : Hid (Lies (wr.alloc (.cells #[.int .i64 1, .int .u32 (xo : Int), encStr xn, .int .i64 xk] 35)) wr.heap.size 35 #[.int .i64 1, .int .u32 (xo : Int), encStr xn, .int .i64 xk]) := Lib.hid (Lies.made _ _ _)
              have DB := Lib.hid (D_2.out.below (below1 wr (.cells #[.int .i64 1, .int .u32 (xo : Int), encStr xn, .int .i64 xk] 35)))
              have HNM : Hid (¬ b.isMap wr.heap.size) := Lib.hid (fun hm => Nat.lt_irrefl _ (D_2.out.s.ok.map_lt hm))
              obtain ⟨W0, hW0⟩ : ∃ W, W = wr.alloc (.cells #[.int .i64 1, .int .u32 (xo : Int), encStr xn, .int .i64 xk] 35) := ⟨_, rfl⟩
              go_wp2_with fail
              rw [← hW0]
              rw [← hW0] at LB DB
              clear hW0 x0 x1 x2 x3
              with_reducible refine (sw_act DB.out.s (1) xo xn xk HXO.out.2.1 HXO.out.2.2.1 HXO.out.2.2.2 (by have := HH.out; omega)).mono ?_
              rintro e w3 ⟨rfl, hs, hf⟩
              have S3 := Lib.hid hs
              have F3 := Lib.hid hf
              have LB3 := Lib.hid (hf.lies LB.out HNM.out)
              have R3 := Lib.hid (DB.out.ra.frm hf DB.out.lo.2)
              clear hs hf
              obtain ⟨x0, x1, x2, x3⟩ := LB3.out.cells4
              go_wp2_with fail
              with_reducible refine (rauth_any B g vF vL r xo xn xk w3 R3.out (DB.out.rel.fok DB.out.s.inv) (DB.out.rel.sumok DB.out.s.inv (by have := HH.out; omega)) (Nat.le_trans DB.out.hB.2 F3.out.size)).mono ?_
              rintro e w4 ⟨rfl, vL4, hr, hf⟩
              obtain ⟨es, ev⟩ : rauthS r xo xn xk = rstep r ⟨1, xo, xn, xk⟩ ∧ rauthV r xo xn xk = rstepV r ⟨1, xo, xn, xk⟩ := rsh (.inr rfl)
              have D4 := Lib.hid (DB.out.act (a := ⟨1, xo, xn, xk⟩) S3.out F3.out hr hf es)
              rw [ev, D_2.out.rel.stepV D_2.out.s.inv]
              clear hr hf es ev x0 x1 x2 x3 LB LB3 R3 S3 F3
              have HH4 : Hid ((actS q ⟨1, xo, xn, xk⟩).H.length ≤ j + 1) := Lib.hid (by have := (actS_len q ⟨1, xo, xn, xk⟩).1; have := HH.out; omega)
              obtain ⟨qq, hqq⟩ : ∃ z, actS q ⟨1, xo, xn, xk⟩ = z := ⟨_, rfl⟩
              obtain ⟨rr, hrr⟩ : ∃ z, rstep r ⟨1, xo, xn, xk⟩ = z := ⟨_, rfl⟩
              rw [hqq] at D4 HH4
              rw [hrr] at D4
              clear hqq hrr
              obtain ⟨vv, hvv⟩ : ∃ z, verd (actV q ⟨1, xo, xn, xk⟩) = z := ⟨_, rfl⟩
              rw [hvv]
              clear hvv
              obtain ⟨Y, hY⟩ : ∃ z, w4 = z := ⟨_, rfl⟩
              rw [hY] at D4 ⊢
              clear hY
              go_wp2_with fail
              with_reducible refine (accts_any b qq Y D4.out.s.ok D4.out.s.inv.ks (by have := D4.out.s.inv.kz; omega)).mono ?_
              rintro e w5 ⟨v13, rfl, ho, hb⟩
              have G5 := Lib.hid ho
              have D5 := Lib.hid (D4.out.below hb)
              have B5 := Lib.hid hb
              clear ho hb
              go_wp2_with fail
              with_reducible refine (pays_any b qq w5 D5.out.s.ok D5.out.s.inv (by have := HH4.out; omega)).mono ?_
              rintro e w6 ⟨v14, rfl, ho, hb⟩
              have R6 := Lib.hid (ho.low B5.out.size)
              have G6 := Lib.hid (G5.out.below hb)
              have D6 := Lib.hid (D5.out.below hb)
              have B6 := Lib.hid (B5.out.trans (hb.mono B5.out.size))
              clear ho hb
              go_wp2_with fail
              with_reducible refine (rgoods_any B g vF vL4 rr w6 D6.out.ra (D6.out.rel.fok D6.out.s.inv) (D6.out.rel.sumok D6.out.s.inv (by have := HH4.out; omega))).mono ?_
              rintro e w7 ⟨vx, rfl, ho, hb⟩
              rw [D6.out.rel.goods D6.out.s.inv] at ho
              have GX := Lib.hid ho
              have G7 := Lib.hid (G6.out.below hb)
              have R7 := Lib.hid (R6.out.below hb)
              have D7 := Lib.hid (D6.out.below hb)
              have B7 := Lib.hid (B6.out.trans (hb.mono B6.out.size))
              clear ho hb
              go_wp2_with fail
              with_reducible refine (sameG_own Y.heap.size w6.heap.size v13 vx qq.K w7 G7.out GX.out (by have := D7.out.s.inv.kz; omega)).mono ?_
              rintro e w8 ⟨rfl, hb⟩
              have G8 := Lib.hid (G7.out.below hb)
              have R8 := Lib.hid (R7.out.below hb)
              have D8 := Lib.hid (D7.out.below hb)
              have B8 := Lib.hid (B7.out.trans (hb.mono B7.out.size))
              clear hb
              go_wp2_with fail
              with_reducible refine (rpays_any B g vF vL4 rr qq.H w8 D8.out.ra D8.out.s.inv.hs D8.out.rel.p (fun z hz => (D8.out.s.inv.hh z hz).2.1) (by have := HH4.out; omega)).mono ?_
              rintro e w9 ⟨vy, rfl, ho, hb⟩
              have RX := Lib.hid ho
              have G9 := Lib.hid (G8.out.below hb)
              have R9 := Lib.hid (R8.out.below hb)
              have D9 := Lib.hid (D8.out.below hb)
              have B9 := Lib.hid (B8.out.trans (hb.mono B8.out.size))
              clear ho hb
              go_wp2_with fail
              with_reducible refine (sameH_own Y.heap.size w8.heap.size v14 vy qq.H w9 R9.out RX.out (by have := HH4.out; omega)).mono ?_
              rintro e w10 ⟨rfl, hb⟩
              have G10 := Lib.hid (G9.out.below hb)
              have R10 := Lib.hid (R9.out.below hb)
              have D10 := Lib.hid (D9.out.below hb)
              have B10 := Lib.hid (B9.out.trans (hb.mono B9.out.size))
              clear hb
              go_wp2_with fail
              with_reducible refine (taken_any b qq w10 D10.out.s.ok D10.out.s.inv (by have := HH4.out; omega)).mono ?_
              rintro e w11 ⟨rfl, hb⟩
              have G11 := Lib.hid (G10.out.below hb)
              have R11 := Lib.hid (R10.out.below hb)
              have D11 := Lib.hid (D10.out.below hb)
              have B11 := Lib.hid (B10.out.trans (hb.mono B10.out.size))
              clear hb
              go_wp2_with fail
              with_reducible refine (rtaken_any B g vF vL4 rr w11 D11.out.ra (D11.out.rel.sumok D11.out.s.inv (by have := HH4.out; omega))).mono ?_
              rintro e w12 ⟨rfl, rfl⟩
              rw [← tot_perm D11.out.rel.p 2]
              generalize tot qq.H 2 = tq
              have hkz : (qq.K.length : Int) ≤ 50 := by have := D11.out.s.inv.kz; omega
              have hhz : (qq.H.length : Int) ≤ 121 := by have := HH4.out; omega
              have GC := Lib.hid G11.out.roww
              have RC := Lib.hid R11.out.roww
              have BC := B11
              obtain ⟨A13, c13, rfl, -, -⟩ := G11.out.gin
              obtain ⟨A14, c14, rfl, -, -⟩ := R11.out.hin
              clear G5 G6 G7 G8 G9 G10 G11 R6 R7 R8 R9 R10 R11 D5 D6 D7 D8 D9 D10 D11 B5 B6 B7 B8 B9 B10 B11 GX RX
              obtain ⟨n5, hn5⟩ : ∃ z, qq.K.length = z := ⟨_, rfl⟩
              obtain ⟨n6, hn6⟩ : ∃ z, qq.H.length = z := ⟨_, rfl⟩
              have HN6 := Lib.hid hn6
              rw [hn5] at GC hkz ⊢
              rw [hn6] at RC hhz ⊢
              clear hn5 hn6
              go_wp2_with fail
              go_loopw [15] (fun v15 wr => DoK Y (.slice A13 n5 c13) (.slice A14 n6 c14) n5 n6 v15 wr) (fun i _ => n5 - (intOf i).toNat)
              case atStart => exact ⟨0, by omega, rfl, BC.out, GC.out, RC.out⟩
              case round =>
                clear GC RC BC
                obtain ⟨k, hk, rfl, hb, hg, hr⟩ := hrel
                have HB7 := Lib.hid hb
                have HG7 := Lib.hid hg
                have HR7 := Lib.hid hr
                clear hb hg hr
                by_cases hk1 : k < n5
                · have hk2 : (k : Int) < (n5 : Int) := by omega
                  rcases HG7.out with h | ⟨g5, o5, cc, cs5, e5, hg5, hL5, hs5⟩
                  · omega
                  injection e5 with q1 q2 q3
                  subst q1 q3
                  have HL5 := Lib.hid hL5
                  clear hL5 q2
                  go_wp2_with (first | ((with_reducible refine wpl_putC none _ _ _ 3 (.tmp 132) (.const (.int .i64 (-7))) g5 (o5 + k * 3 + 1) 46 cs5 (.int .i64 (-7)) ?px ?py HL5.out ?pi ?ps rfl ?_); (case px => rfl); (case py => rfl); (case pi => omega); (case ps => kernel_rfl); (intro w8 hp8; (have HP8 := Lib.hid hp8); clear hp8)))
                  go_roundw
                  case rel => exact ⟨k + 1, by omega, by go_num, HB7.out.grown HP8.out.grown HB7.out.size (fun z hz => by injection hz with hz; omega), .inr ⟨g5, o5, _, _, rfl, hg5, HP8.out.lies, by simp; omega⟩, HR7.out.put HL5.out HP8.out (by decide)⟩
                  case measure => simp [intOf]; omega
                · have hk2 : decide ((k : Int) < (n5 : Int)) = false := by simp; omega
                  clear HG7
                  go_wp2_with fail
                  go_loopw [16] (fun v16 wr => DoM Y (.slice A14 n6 c14) n6 v16 wr) (fun i _ => n6 - (intOf i).toNat)
                  case atStart => exact ⟨0, by omega, rfl, HB7.out, HR7.out⟩
                  case round =>
                    clear HB7 HR7 hk hk1 hk2
                    obtain ⟨k, hk, rfl, hb, hr⟩ := hrel
                    have HB8 := Lib.hid hb
                    have HR8 := Lib.hid hr
                    clear hb hr
                    by_cases hk1 : k < n6
                    · have hk2 : (k : Int) < (n6 : Int) := by omega
                      rcases HR8.out with h | ⟨g5, o5, cc, cs5, e5, hg5, hL5, hs5⟩
                      · omega
                      injection e5 with q1 q2 q3
                      subst q1 q3
                      have HL5 := Lib.hid hL5
                      clear hL5 q2
                      go_wp2_with (first | ((with_reducible refine wpl_putC none _ _ _ 3 (.tmp 142) (.const (.int .i64 (-7))) g5 (o5 + k * 4 + 3) 48 cs5 (.int .i64 (-7)) ?px ?py HL5.out ?pi ?ps rfl ?_); (case px => rfl); (case py => rfl); (case pi => omega); (case ps => kernel_rfl); (intro w8 hp8; (have HP8 := Lib.hid hp8); clear hp8)))
                      go_roundw
                      case rel => exact ⟨k + 1, by omega, by go_num, HB8.out.grown HP8.out.grown HB8.out.size (fun z hz => by injection hz with hz; omega), .inr ⟨g5, o5, _, _, rfl, hg5, HP8.out.lies, by simp; omega⟩⟩
                      case measure => simp [intOf]; omega
                    · have hk2 : decide ((k : Int) < (n6 : Int)) = false := by simp; omega
                      go_wp2_with fail
                      go_roundw
                      case rel => exact ⟨j + 1, qq, vF, vL4, rr, by omega, by omega, by go_num, D4.out.below HB8.out, HH4.out⟩
                      case measure => simp [intOf]; omega
            by_cases t2 : xt = 2
            · subst t2
              have LB : Hid (Lies (wr.alloc (.cells #[.int .i64 2, .int .u32 (xo : Int), encStr xn, .int .i64 xk] 35)) wr.heap.size 35 #[.int .i64 2, .int .u32 (xo : Int), encStr xn, .int .i64 xk]) := Lib.hid (Lies.made _ _ _)
              have DB := Lib.hid (D_2.out.below (below1 wr (.cells #[.int .i64 2, .int .u32 (xo : Int), encStr xn, .int .i64 xk] 35)))
              have HNM : Hid (¬ b.isMap wr.heap.size) := Lib.hid (fun hm => Nat.lt_irrefl _ (D_2.out.s.ok.map_lt hm))
              obtain ⟨W0, hW0⟩ : ∃ W, W = wr.alloc (.cells #[.int .i64 2, .int .u32 (xo : Int), encStr xn, .int .i64 xk] 35) := ⟨_, rfl⟩
              go_wp2_with fail
              rw [← hW0]
              rw [← hW0] at LB DB
              clear hW0 x0 x1 x2 x3
              with_reducible refine (sw_act DB.out.s (2) xo xn xk HXO.out.2.1 HXO.out.2.2.1 HXO.out.2.2.2 (by have := HH.out; omega)).mono ?_
              rintro e w3 ⟨rfl, hs, hf⟩
              have S3 := Lib.hid hs
              have F3 := Lib.hid hf
              have LB3 := Lib.hid (hf.lies LB.out HNM.out)
              have R3 := Lib.hid (DB.out.ra.frm hf DB.out.lo.2)
              clear hs hf
              obtain ⟨x0, x1, x2, x3⟩ := LB3.out.cells4
              go_wp2_with fail
              with_reducible refine (rturn_any B g vF vL r xo 1 2 1 2 w3 rfl rfl R3.out (by rw [← DB.out.rel.p.length_eq]; have := HH.out; omega)).mono ?_
              rintro e w4 ⟨rfl, vL4, hr, hf⟩
              obtain ⟨es, ev⟩ : rturnS r xo 1 2 = rstep r ⟨2, xo, xn, xk⟩ ∧ rturnV r xo 1 = rstepV r ⟨2, xo, xn, xk⟩ := rst (c := 0) (by decide) rfl rfl rfl
              have D4 := Lib.hid (DB.out.act (a := ⟨2, xo, xn, xk⟩) S3.out F3.out hr hf es)
              rw [ev, D_2.out.rel.stepV D_2.out.s.inv]
              clear hr hf es ev x0 x1 x2 x3 LB LB3 R3 S3 F3
              have HH4 : Hid ((actS q ⟨2, xo, xn, xk⟩).H.length ≤ j + 1) := Lib.hid (by have := (actS_len q ⟨2, xo, xn, xk⟩).1; have := HH.out; omega)
              obtain ⟨qq, hqq⟩ : ∃ z, actS q ⟨2, xo, xn, xk⟩ = z := ⟨_, rfl⟩
              obtain ⟨rr, hrr⟩ : ∃ z, rstep r ⟨2, xo, xn, xk⟩ = z := ⟨_, rfl⟩
              rw [hqq] at D4 HH4
              rw [hrr] at D4
              clear hqq hrr
              obtain ⟨vv, hvv⟩ : ∃ z, verd (actV q ⟨2, xo, xn, xk⟩) = z := ⟨_, rfl⟩
              rw [hvv]
              clear hvv
              obtain ⟨Y, hY⟩ : ∃ z, w4 = z := ⟨_, rfl⟩
              rw [hY] at D4 ⊢
              clear hY
              go_wp2_with fail
              with_reducible refine (accts_any b qq Y D4.out.s.ok D4.out.s.inv.ks (by have := D4.out.s.inv.kz; omega)).mono ?_
              rintro e w5 ⟨v13, rfl, ho, hb⟩
              have G5 := Lib.hid ho
              have D5 := Lib.hid (D4.out.below hb)
              have B5 := Lib.hid hb
              clear ho hb
              go_wp2_with fail
              with_reducible refine (pays_any b qq w5 D5.out.s.ok D5.out.s.inv (by have := HH4.out; omega)).mono ?_
              rintro e w6 ⟨v14, rfl, ho, hb⟩
              have R6 := Lib.hid (ho.low B5.out.size)
              have G6 := Lib.hid (G5.out.below hb)
              have D6 := Lib.hid (D5.out.below hb)
              have B6 := Lib.hid (B5.out.trans (hb.mono B5.out.size))
              clear ho hb
              go_wp2_with fail
              with_reducible refine (rgoods_any B g vF vL4 rr w6 D6.out.ra (D6.out.rel.fok D6.out.s.inv) (D6.out.rel.sumok D6.out.s.inv (by have := HH4.out; omega))).mono ?_
              rintro e w7 ⟨vx, rfl, ho, hb⟩
              rw [D6.out.rel.goods D6.out.s.inv] at ho
              have GX := Lib.hid ho
              have G7 := Lib.hid (G6.out.below hb)
              have R7 := Lib.hid (R6.out.below hb)
              have D7 := Lib.hid (D6.out.below hb)
              have B7 := Lib.hid (B6.out.trans (hb.mono B6.out.size))
              clear ho hb
              go_wp2_with fail
              with_reducible refine (sameG_own Y.heap.size w6.heap.size v13 vx qq.K w7 G7.out GX.out (by have := D7.out.s.inv.kz; omega)).mono ?_
              rintro e w8 ⟨rfl, hb⟩
              have G8 := Lib.hid (G7.out.below hb)
              have R8 := Lib.hid (R7.out.below hb)
              have D8 := Lib.hid (D7.out.below hb)
              have B8 := Lib.hid (B7.out.trans (hb.mono B7.out.size))
              clear hb
              go_wp2_with fail
              with_reducible refine (rpays_any B g vF vL4 rr qq.H w8 D8.out.ra D8.out.s.inv.hs D8.out.rel.p (fun z hz => (D8.out.s.inv.hh z hz).2.1) (by have := HH4.out; omega)).mono ?_
              rintro e w9 ⟨vy, rfl, ho, hb⟩
              have RX := Lib.hid ho
              have G9 := Lib.hid (G8.out.below hb)
              have R9 := Lib.hid (R8.out.below hb)
              have D9 := Lib.hid (D8.out.below hb)
              have B9 := Lib.hid (B8.out.trans (hb.mono B8.out.size))
              clear ho hb
              go_wp2_with fail
              with_reducible refine (sameH_own Y.heap.size w8.heap.size v14 vy qq.H w9 R9.out RX.out (by have := HH4.out; omega)).mono ?_
              rintro e w10 ⟨rfl, hb⟩
              have G10 := Lib.hid (G9.out.below hb)
              have R10 := Lib.hid (R9.out.below hb)
              have D10 := Lib.hid (D9.out.below hb)
              have B10 := Lib.hid (B9.out.trans (hb.mono B9.out.size))
              clear hb
              go_wp2_with fail
              with_reducible refine (taken_any b qq w10 D10.out.s.ok D10.out.s.inv (by have := HH4.out; omega)).mono ?_
              rintro e w11 ⟨rfl, hb⟩
              have G11 := Lib.hid (G10.out.below hb)
              have R11 := Lib.hid (R10.out.below hb)
              have D11 := Lib.hid (D10.out.below hb)
              have B11 := Lib.hid (B10.out.trans (hb.mono B10.out.size))
              clear hb
              go_wp2_with fail
              with_reducible refine (rtaken_any B g vF vL4 rr w11 D11.out.ra (D11.out.rel.sumok D11.out.s.inv (by have := HH4.out; omega))).mono ?_
              rintro e w12 ⟨rfl, rfl⟩
              rw [← tot_perm D11.out.rel.p 2]
              generalize tot qq.H 2 = tq
              have hkz : (qq.K.length : Int) ≤ 50 := by have := D11.out.s.inv.kz; omega
              have hhz : (qq.H.length : Int) ≤ 121 := by have := HH4.out; omega
              have GC := Lib.hid G11.out.roww
              have RC := Lib.hid R11.out.roww
              have BC := B11
              obtain ⟨A13, c13, rfl, -, -⟩ := G11.out.gin
              obtain ⟨A14, c14, rfl, -, -⟩ := R11.out.hin
              clear G5 G6 G7 G8 G9 G10 G11 R6 R7 R8 R9 R10 R11 D5 D6 D7 D8 D9 D10 D11 B5 B6 B7 B8 B9 B10 B11 GX RX
              obtain ⟨n5, hn5⟩ : ∃ z, qq.K.length = z := ⟨_, rfl⟩
              obtain ⟨n6, hn6⟩ : ∃ z, qq.H.length = z := ⟨_, rfl⟩
              have HN6 := Lib.hid hn6
              rw [hn5] at GC hkz ⊢
              rw [hn6] at RC hhz ⊢
              clear hn5 hn6
              go_wp2_with fail
              go_loopw [15] (fun v15 wr => DoK Y (.slice A13 n5 c13) (.slice A14 n6 c14) n5 n6 v15 wr) (fun i _ => n5 - (intOf i).toNat)
              case atStart => exact ⟨0, by omega, rfl, BC.out, GC.out, RC.out⟩
              case round =>
                clear GC RC BC
                obtain ⟨k, hk, rfl, hb, hg, hr⟩ := hrel
                have HB7 := Lib.hid hb
                have HG7 := Lib.hid hg
                have HR7 := Lib.hid hr
                clear hb hg hr
                by_cases hk1 : k < n5
                · have hk2 : (k : Int) < (n5 : Int) := by omega
                  rcases HG7.out with h | ⟨g5, o5, cc, cs5, e5, hg5, hL5, hs5⟩
                  · omega
                  injection e5 with q1 q2 q3
                  subst q1 q3
                  have HL5 := Lib.hid hL5
                  clear hL5 q2
                  go_wp2_with (first | ((with_reducible refine wpl_putC none _ _ _ 3 (.tmp 132) (.const (.int .i64 (-7))) g5 (o5 + k * 3 + 1) 46 cs5 (.int .i64 (-7)) ?px ?py HL5.out ?pi ?ps rfl ?_); (case px => rfl); (case py => rfl); (case pi => omega); (case ps => kernel_rfl); (intro w8 hp8; (have HP8 := Lib.hid hp8); clear hp8)))
                  go_roundw
                  case rel => exact ⟨k + 1, by omega, by go_num, HB7.out.grown HP8.out.grown HB7.out.size (fun z hz => by injection hz with hz; omega), .inr ⟨g5, o5, _, _, rfl, hg5, HP8.out.lies, by simp; omega⟩, HR7.out.put HL5.out HP8.out (by decide)⟩
                  case measure => simp [intOf]; omega
                · have hk2 : decide ((k : Int) < (n5 : Int)) = false := by simp; omega
                  clear HG7
                  go_wp2_with fail
                  go_loopw [16] (fun v16 wr => DoM Y (.slice A14 n6 c14) n6 v16 wr) (fun i _ => n6 - (intOf i).toNat)
                  case atStart => exact ⟨0, by omega, rfl, HB7.out, HR7.out⟩
                  case round =>
                    clear HB7 HR7 hk hk1 hk2
                    obtain ⟨k, hk, rfl, hb, hr⟩ := hrel
                    have HB8 := Lib.hid hb
                    have HR8 := Lib.hid hr
                    clear hb hr
                    by_cases hk1 : k < n6
                    · have hk2 : (k : Int) < (n6 : Int) := by omega
                      rcases HR8.out with h | ⟨g5, o5, cc, cs5, e5, hg5, hL5, hs5⟩
                      · omega
                      injection e5 with q1 q2 q3
                      subst q1 q3
                      have HL5 := Lib.hid hL5
                      clear hL5 q2
                      go_wp2_with (first | ((with_reducible refine wpl_putC none _ _ _ 3 (.tmp 142) (.const (.int .i64 (-7))) g5 (o5 + k * 4 + 3) 48 cs5 (.int .i64 (-7)) ?px ?py HL5.out ?pi ?ps rfl ?_); (case px => rfl); (case py => rfl); (case pi => omega); (case ps => kernel_rfl); (intro w8 hp8; (have HP8 := Lib.hid hp8); clear hp8)))
                      go_roundw
                      case rel => exact ⟨k + 1, by omega, by go_num, HB8.out.grown HP8.out.grown HB8.out.size (fun z hz => by injection hz with hz; omega), .inr ⟨g5, o5, _, _, rfl, hg5, HP8.out.lies, by simp; omega⟩⟩
                      case measure => simp [intOf]; omega
                    · have hk2 : decide ((k : Int) < (n6 : Int)) = false := by simp; omega
                      go_wp2_with fail
                      go_roundw
                      case rel => exact ⟨j + 1, qq, vF, vL4, rr, by omega, by omega, by go_num, D4.out.below HB8.out, HH4.out⟩
                      case measure => simp [intOf]; omega
            by_cases t3 : xt = 3
            · subst t3
              have LB : Hid (Lies (wr.alloc (.cells #[.int .i64 3, .int .u32 (xo : Int), encStr xn, .int .i64 xk] 35)) wr.heap.size 35 #[.int .i64 3, .int .u32 (xo : Int), encStr xn, .int .i64 xk]) := Lib.hid (Lies.made _ _ _)
              have DB := Lib.hid (D_2.out.below (below1 wr (.cells #[.int .i64 3, .int .u32 (xo : Int), encStr xn, .int .i64 xk] 35)))
              have HNM : Hid (¬ b.isMap wr.heap.size) := Lib.hid (fun hm => Nat.lt_irrefl _ (D_2.out.s.ok.map_lt hm))
              obtain ⟨W0, hW0⟩ : ∃ W, W = wr.alloc (.cells #[.int .i64 3, .int .u32 (xo : Int), encStr xn, .int .i64 xk] 35) := ⟨_, rfl⟩
              go_wp2_with fail
              rw [← hW0]
              rw [← hW0] at LB DB
              clear hW0 x0 x1 x2 x3
              with_reducible refine (sw_act DB.out.s (3) xo xn xk HXO.out.2.1 HXO.out.2.2.1 HXO.out.2.2.2 (by have := HH.out; omega)).mono ?_
              rintro e w3 ⟨rfl, hs, hf⟩
              have S3 := Lib.hid hs
              have F3 := Lib.hid hf
              have LB3 := Lib.hid (hf.lies LB.out HNM.out)
              have R3 := Lib.hid (DB.out.ra.frm hf DB.out.lo.2)
              clear hs hf
              obtain ⟨x0, x1, x2, x3⟩ := LB3.out.cells4
              go_wp2_with fail
              with_reducible refine (rturn_any B g vF vL r xo 1 3 1 3 w3 rfl rfl R3.out (by rw [← DB.out.rel.p.length_eq]; have := HH.out; omega)).mono ?_
              rintro e w4 ⟨rfl, vL4, hr, hf⟩
              obtain ⟨es, ev⟩ : rturnS r xo 1 3 = rstep r ⟨3, xo, xn, xk⟩ ∧ rturnV r xo 1 = rstepV r ⟨3, xo, xn, xk⟩ := rst (c := 1) (by decide) rfl rfl rfl
              have D4 := Lib.hid (DB.out.act (a := ⟨3, xo, xn, xk⟩) S3.out F3.out hr hf es)
              rw [ev, D_2.out.rel.stepV D_2.out.s.inv]
              clear hr hf es ev x0 x1 x2 x3 LB LB3 R3 S3 F3
              have HH4 : Hid ((actS q ⟨3, xo, xn, xk⟩).H.length ≤ j + 1) := Lib.hid (by have := (actS_len q ⟨3, xo, xn, xk⟩).1; have := HH.out; omega)
              obtain ⟨qq, hqq⟩ : ∃ z, actS q ⟨3, xo, xn, xk⟩ = z := ⟨_, rfl⟩
              obtain ⟨rr, hrr⟩ : ∃ z, rstep r ⟨3, xo, xn, xk⟩ = z := ⟨_, rfl⟩
              rw [hqq] at D4 HH4
              rw [hrr] at D4
              clear hqq hrr
              obtain ⟨vv, hvv⟩ : ∃ z, verd (actV q ⟨3, xo, xn, xk⟩) = z := ⟨_, rfl⟩
              rw [hvv]
              clear hvv
              obtain ⟨Y, hY⟩ : ∃ z, w4 = z := ⟨_, rfl⟩
              rw [hY] at D4 ⊢
              clear hY
              go_wp2_with fail
              with_reducible refine (accts_any b qq Y D4.out.s.ok D4.out.s.inv.ks (by have := D4.out.s.inv.kz; omega)).mono ?_
              rintro e w5 ⟨v13, rfl, ho, hb⟩
              have G5 := Lib.hid ho
              have D5 := Lib.hid (D4.out.below hb)
              have B5 := Lib.hid hb
              clear ho hb
              go_wp2_with fail
              with_reducible refine (pays_any b qq w5 D5.out.s.ok D5.out.s.inv (by have := HH4.out; omega)).mono ?_
              rintro e w6 ⟨v14, rfl, ho, hb⟩
              have R6 := Lib.hid (ho.low B5.out.size)
              have G6 := Lib.hid (G5.out.below hb)
              have D6 := Lib.hid (D5.out.below hb)
              have B6 := Lib.hid (B5.out.trans (hb.mono B5.out.size))
              clear ho hb
              go_wp2_with fail
              with_reducible refine (rgoods_any B g vF vL4 rr w6 D6.out.ra (D6.out.rel.fok D6.out.s.inv) (D6.out.rel.sumok D6.out.s.inv (by have := HH4.out; omega))).mono ?_
              rintro e w7 ⟨vx, rfl, ho, hb⟩
              rw [D6.out.rel.goods D6.out.s.inv] at ho
              have GX := Lib.hid ho
              have G7 := Lib.hid (G6.out.below hb)
              have R7 := Lib.hid (R6.out.below hb)
              have D7 := Lib.hid (D6.out.below hb)
              have B7 := Lib.hid (B6.out.trans (hb.mono B6.out.size))
              clear ho hb
              go_wp2_with fail
              with_reducible refine (sameG_own Y.heap.size w6.heap.size v13 vx qq.K w7 G7.out GX.out (by have := D7.out.s.inv.kz; omega)).mono ?_
              rintro e w8 ⟨rfl, hb⟩
              have G8 := Lib.hid (G7.out.below hb)
              have R8 := Lib.hid (R7.out.below hb)
              have D8 := Lib.hid (D7.out.below hb)
              have B8 := Lib.hid (B7.out.trans (hb.mono B7.out.size))
              clear hb
              go_wp2_with fail
              with_reducible refine (rpays_any B g vF vL4 rr qq.H w8 D8.out.ra D8.out.s.inv.hs D8.out.rel.p (fun z hz => (D8.out.s.inv.hh z hz).2.1) (by have := HH4.out; omega)).mono ?_
              rintro e w9 ⟨vy, rfl, ho, hb⟩
              have RX := Lib.hid ho
              have G9 := Lib.hid (G8.out.below hb)
              have R9 := Lib.hid (R8.out.below hb)
              have D9 := Lib.hid (D8.out.below hb)
              have B9 := Lib.hid (B8.out.trans (hb.mono B8.out.size))
              clear ho hb
              go_wp2_with fail
              with_reducible refine (sameH_own Y.heap.size w8.heap.size v14 vy qq.H w9 R9.out RX.out (by have := HH4.out; omega)).mono ?_
              rintro e w10 ⟨rfl, hb⟩
              have G10 := Lib.hid (G9.out.below hb)
              have R10 := Lib.hid (R9.out.below hb)
              have D10 := Lib.hid (D9.out.below hb)
              have B10 := Lib.hid (B9.out.trans (hb.mono B9.out.size))
              clear hb
              go_wp2_with fail
              with_reducible refine (taken_any b qq w10 D10.out.s.ok D10.out.s.inv (by have := HH4.out; omega)).mono ?_
              rintro e w11 ⟨rfl, hb⟩
              have G11 := Lib.hid (G10.out.below hb)
              have R11 := Lib.hid (R10.out.below hb)
              have D11 := Lib.hid (D10.out.below hb)
              have B11 := Lib.hid (B10.out.trans (hb.mono B10.out.size))
              clear hb
              go_wp2_with fail
              with_reducible refine (rtaken_any B g vF vL4 rr w11 D11.out.ra (D11.out.rel.sumok D11.out.s.inv (by have := HH4.out; omega))).mono ?_
              rintro e w12 ⟨rfl, rfl⟩
              rw [← tot_perm D11.out.rel.p 2]
              generalize tot qq.H 2 = tq
              have hkz : (qq.K.length : Int) ≤ 50 := by have := D11.out.s.inv.kz; omega
              have hhz : (qq.H.length : Int) ≤ 121 := by have := HH4.out; omega
              have GC := Lib.hid G11.out.roww
              have RC := Lib.hid R11.out.roww
              have BC := B11
              obtain ⟨A13, c13, rfl, -, -⟩ := G11.out.gin
              obtain ⟨A14, c14, rfl, -, -⟩ := R11.out.hin
              clear G5 G6 G7 G8 G9 G10 G11 R6 R7 R8 R9 R10 R11 D5 D6 D7 D8 D9 D10 D11 B5 B6 B7 B8 B9 B10 B11 GX RX
              obtain ⟨n5, hn5⟩ : ∃ z, qq.K.length = z := ⟨_, rfl⟩
              obtain ⟨n6, hn6⟩ : ∃ z, qq.H.length = z := ⟨_, rfl⟩
              have HN6 := Lib.hid hn6
              rw [hn5] at GC hkz ⊢
              rw [hn6] at RC hhz ⊢
              clear hn5 hn6
              go_wp2_with fail
              go_loopw [15] (fun v15 wr => DoK Y (.slice A13 n5 c13) (.slice A14 n6 c14) n5 n6 v15 wr) (fun i _ => n5 - (intOf i).toNat)
              case atStart => exact ⟨0, by omega, rfl, BC.out, GC.out, RC.out⟩
              case round =>
                clear GC RC BC
                obtain ⟨k, hk, rfl, hb, hg, hr⟩ := hrel
                have HB7 := Lib.hid hb
                have HG7 := Lib.hid hg
                have HR7 := Lib.hid hr
                clear hb hg hr
                by_cases hk1 : k < n5
                · have hk2 : (k : Int) < (n5 : Int) := by omega
                  rcases HG7.out with h | ⟨g5, o5, cc, cs5, e5, hg5, hL5, hs5⟩
                  · omega
                  injection e5 with q1 q2 q3
                  subst q1 q3
                  have HL5 := Lib.hid hL5
                  clear hL5 q2
                  go_wp2_with (first | ((with_reducible refine wpl_putC none _ _ _ 3 (.tmp 132) (.const (.int .i64 (-7))) g5 (o5 + k * 3 + 1) 46 cs5 (.int .i64 (-7)) ?px ?py HL5.out ?pi ?ps rfl ?_); (case px => rfl); (case py => rfl); (case pi => omega); (case ps => kernel_rfl); (intro w8 hp8; (have HP8 := Lib.hid hp8); clear hp8)))
                  go_roundw
                  case rel => exact ⟨k + 1, by omega, by go_num, HB7.out.grown HP8.out.grown HB7.out.size (fun z hz => by injection hz with hz; omega), .inr ⟨g5, o5, _, _, rfl, hg5, HP8.out.lies, by simp; omega⟩, HR7.out.put HL5.out HP8.out (by decide)⟩
                  case measure => simp [intOf]; omega
                · have hk2 : decide ((k : Int) < (n5 : Int)) = false := by simp; omega
                  clear HG7
                  go_wp2_with fail
                  go_loopw [16] (fun v16 wr => DoM Y (.slice A14 n6 c14) n6 v16 wr) (fun i _ => n6 - (intOf i).toNat)
                  case atStart => exact ⟨0, by omega, rfl, HB7.out, HR7.out⟩
                  case round =>
                    clear HB7 HR7 hk hk1 hk2
                    obtain ⟨k, hk, rfl, hb, hr⟩ := hrel
                    have HB8 := Lib.hid hb
                    have HR8 := Lib.hid hr
                    clear hb hr
                    by_cases hk1 : k < n6
                    · have hk2 : (k : Int) < (n6 : Int) := by omega
                      rcases HR8.out with h | ⟨g5, o5, cc, cs5, e5, hg5, hL5, hs5⟩
                      · omega
                      injection e5 with q1 q2 q3
                      subst q1 q3
                      have HL5 := Lib.hid hL5
                      clear hL5 q2
                      go_wp2_with (first | ((with_reducible refine wpl_putC none _ _ _ 3 (.tmp 142) (.const (.int .i64 (-7))) g5 (o5 + k * 4 + 3) 48 cs5 (.int .i64 (-7)) ?px ?py HL5.out ?pi ?ps rfl ?_); (case px => rfl); (case py => rfl); (case pi => omega); (case ps => kernel_rfl); (intro w8 hp8; (have HP8 := Lib.hid hp8); clear hp8)))
                      go_roundw
                      case rel => exact ⟨k + 1, by omega, by go_num, HB8.out.grown HP8.out.grown HB8.out.size (fun z hz => by injection hz with hz; omega), .inr ⟨g5, o5, _, _, rfl, hg5, HP8.out.lies, by simp; omega⟩⟩
                      case measure => simp [intOf]; omega
                    · have hk2 : decide ((k : Int) < (n6 : Int)) = false := by simp; omega
                      go_wp2_with fail
                      go_roundw
                      case rel => exact ⟨j + 1, qq, vF, vL4, rr, by omega, by omega, by go_num, D4.out.below HB8.out, HH4.out⟩
                      case measure => simp [intOf]; omega
            have t0' : (xt == 0) = false := by simpa using t0
            have t1' : (xt == 1) = false := by simpa using t1
            have t2' : (xt == 2) = false := by simpa using t2
            have t3' : (xt == 3) = false := by simpa using t3
            have LB : Hid (Lies (wr.alloc (.cells #[.int .i64 xt, .int .u32 (xo : Int), encStr xn, .int .i64 xk] 35)) wr.heap.size 35 #[.int .i64 xt, .int .u32 (xo : Int), encStr xn, .int .i64 xk]) := Lib.hid (Lies.made _ _ _)
            have DB := Lib.hid (D_2.out.below (below1 wr (.cells #[.int .i64 xt, .int .u32 (xo : Int), encStr xn, .int .i64 xk] 35)))
            have HNM : Hid (¬ b.isMap wr.heap.size) := Lib.hid (fun hm => Nat.lt_irrefl _ (D_2.out.s.ok.map_lt hm))
            obtain ⟨W0, hW0⟩ : ∃ W, W = wr.alloc (.cells #[.int .i64 xt, .int .u32 (xo : Int), encStr xn, .int .i64 xk] 35) := ⟨_, rfl⟩
            go_wp2_with fail
            rw [← hW0]
            rw [← hW0] at LB DB
            clear hW0 x0 x1 x2 x3
            with_reducible refine (sw_act DB.out.s (xt) xo xn xk HXO.out.2.1 HXO.out.2.2.1 HXO.out.2.2.2 (by have := HH.out; omega)).mono ?_
            rintro e w3 ⟨rfl, hs, hf⟩
            have S3 := Lib.hid hs
            have F3 := Lib.hid hf
            have LB3 := Lib.hid (hf.lies LB.out HNM.out)
            have R3 := Lib.hid (DB.out.ra.frm hf DB.out.lo.2)
            clear hs hf
            obtain ⟨x0, x1, x2, x3⟩ := LB3.out.cells4
            go_wp2_with fail
            with_reducible refine (rturn_any B g vF vL r xo 2 3 2 3 w3 rfl rfl R3.out (by rw [← DB.out.rel.p.length_eq]; have := HH.out; omega)).mono ?_
            rintro e w4 ⟨rfl, vL4, hr, hf⟩
            obtain ⟨es, ev⟩ : rturnS r xo 2 3 = rstep r ⟨xt, xo, xn, xk⟩ ∧ rturnV r xo 2 = rstepV r ⟨xt, xo, xn, xk⟩ := rst (c := 2) (fun h => h.elim t0 t1) (by unfold wayOf; rw [if_neg t2, if_neg t3]) rfl rfl
            have D4 := Lib.hid (DB.out.act (a := ⟨xt, xo, xn, xk⟩) S3.out F3.out hr hf es)
            rw [ev, D_2.out.rel.stepV D_2.out.s.inv]
            clear hr hf es ev x0 x1 x2 x3 LB LB3 R3 S3 F3
            have HH4 : Hid ((actS q ⟨xt, xo, xn, xk⟩).H.length ≤ j + 1) := Lib.hid (by have := (actS_len q ⟨xt, xo, xn, xk⟩).1; have := HH.out; omega)
            obtain ⟨qq, hqq⟩ : ∃ z, actS q ⟨xt, xo, xn, xk⟩ = z := ⟨_, rfl⟩
            obtain ⟨rr, hrr⟩ : ∃ z, rstep r ⟨xt, xo, xn, xk⟩ = z := ⟨_, rfl⟩
            rw [hqq] at D4 HH4
            rw [hrr] at D4
            clear hqq hrr
            obtain ⟨vv, hvv⟩ : ∃ z, verd (actV q ⟨xt, xo, xn, xk⟩) = z := ⟨_, rfl⟩
            rw [hvv]
            clear hvv
            obtain ⟨Y, hY⟩ : ∃ z, w4 = z := ⟨_, rfl⟩
            rw [hY] at D4 ⊢
            clear hY
            go_wp2_with fail
            with_reducible refine (accts_any b qq Y D4.out.s.ok D4.out.s.inv.ks (by have := D4.out.s.inv.kz; omega)).mono ?_
            rintro e w5 ⟨v13, rfl, ho, hb⟩
            have G5 := Lib.hid ho
            have D5 := Lib.hid (D4.out.below hb)
            have B5 := Lib.hid hb
            clear ho hb
            go_wp2_with fail
            with_reducible refine (pays_any b qq w5 D5.out.s.ok D5.out.s.inv (by have := HH4.out; omega)).mono ?_
            rintro e w6 ⟨v14, rfl, ho, hb⟩
            have R6 := Lib.hid (ho.low B5.out.size)
            have G6 := Lib.hid (G5.out.below hb)
            have D6 := Lib.hid (D5.out.below hb)
            have B6 := Lib.hid (B5.out.trans (hb.mono B5.out.size))
            clear ho hb
            go_wp2_with fail
            with_reducible refine (rgoods_any B g vF vL4 rr w6 D6.out.ra (D6.out.rel.fok D6.out.s.inv) (D6.out.rel.sumok D6.out.s.inv (by have := HH4.out; omega))).mono ?_
            rintro e w7 ⟨vx, rfl, ho, hb⟩
            rw [D6.out.rel.goods D6.out.s.inv] at ho
            have GX := Lib.hid ho
            have G7 := Lib.hid (G6.out.below hb)
            have R7 := Lib.hid (R6.out.below hb)
            have D7 := Lib.hid (D6.out.below hb)
            have B7 := Lib.hid (B6.out.trans (hb.mono B6.out.size))
            clear ho hb
            go_wp2_with fail
            with_reducible refine (sameG_own Y.heap.size w6.heap.size v13 vx qq.K w7 G7.out GX.out (by have := D7.out.s.inv.kz; omega)).mono ?_
            rintro e w8 ⟨rfl, hb⟩
            have G8 := Lib.hid (G7.out.below hb)
            have R8 := Lib.hid (R7.out.below hb)
            have D8 := Lib.hid (D7.out.below hb)
            have B8 := Lib.hid (B7.out.trans (hb.mono B7.out.size))
            clear hb
            go_wp2_with fail
            with_reducible refine (rpays_any B g vF vL4 rr qq.H w8 D8.out.ra D8.out.s.inv.hs D8.out.rel.p (fun z hz => (D8.out.s.inv.hh z hz).2.1) (by have := HH4.out; omega)).mono ?_
            rintro e w9 ⟨vy, rfl, ho, hb⟩
            have RX := Lib.hid ho
            have G9 := Lib.hid (G8.out.below hb)
            have R9 := Lib.hid (R8.out.below hb)
            have D9 := Lib.hid (D8.out.below hb)
            have B9 := Lib.hid (B8.out.trans (hb.mono B8.out.size))
            clear ho hb
            go_wp2_with fail
            with_reducible refine (sameH_own Y.heap.size w8.heap.size v14 vy qq.H w9 R9.out RX.out (by have := HH4.out; omega)).mono ?_
            rintro e w10 ⟨rfl, hb⟩
            have G10 := Lib.hid (G9.out.below hb)
            have R10 := Lib.hid (R9.out.below hb)
            have D10 := Lib.hid (D9.out.below hb)
            have B10 := Lib.hid (B9.out.trans (hb.mono B9.out.size))
            clear hb
            go_wp2_with fail
            with_reducible refine (taken_any b qq w10 D10.out.s.ok D10.out.s.inv (by have := HH4.out; omega)).mono ?_
            rintro e w11 ⟨rfl, hb⟩
            have G11 := Lib.hid (G10.out.below hb)
            have R11 := Lib.hid (R10.out.below hb)
            have D11 := Lib.hid (D10.out.below hb)
            have B11 := Lib.hid (B10.out.trans (hb.mono B10.out.size))
            clear hb
            go_wp2_with fail
            with_reducible refine (rtaken_any B g vF vL4 rr w11 D11.out.ra (D11.out.rel.sumok D11.out.s.inv (by have := HH4.out; omega))).mono ?_
            rintro e w12 ⟨rfl, rfl⟩
            rw [← tot_perm D11.out.rel.p 2]
            generalize tot qq.H 2 = tq
            have hkz : (qq.K.length : Int) ≤ 50 := by have := D11.out.s.inv.kz; omega
            have hhz : (qq.H.length : Int) ≤ 121 := by have := HH4.out; omega
            have GC := Lib.hid G11.out.roww
            have RC := Lib.hid R11.out.roww
            have BC := B11
            obtain ⟨A13, c13, rfl, -, -⟩ := G11.out.gin
            obtain ⟨A14, c14, rfl, -, -⟩ := R11.out.hin
            clear G5 G6 G7 G8 G9 G10 G11 R6 R7 R8 R9 R10 R11 D5 D6 D7 D8 D9 D10 D11 B5 B6 B7 B8 B9 B10 B11 GX RX
            obtain ⟨n5, hn5⟩ : ∃ z, qq.K.length = z := ⟨_, rfl⟩
            obtain ⟨n6, hn6⟩ : ∃ z, qq.H.length = z := ⟨_, rfl⟩
            have HN6 := Lib.hid hn6
            rw [hn5] at GC hkz ⊢
            rw [hn6] at RC hhz ⊢
            clear hn5 hn6
            go_wp2_with fail
            go_loopw [15] (fun v15 wr => DoK Y (.slice A13 n5 c13) (.slice A14 n6 c14) n5 n6 v15 wr) (fun i _ => n5 - (intOf i).toNat)
            case atStart => exact ⟨0, by omega, rfl, BC.out, GC.out, RC.out⟩
            case round =>
              clear GC RC BC
              obtain ⟨k, hk, rfl, hb, hg, hr⟩ := hrel
              have HB7 := Lib.hid hb
              have HG7 := Lib.hid hg
              have HR7 := Lib.hid hr
              clear hb hg hr
              by_cases hk1 : k < n5
              · have hk2 : (k : Int) < (n5 : Int) := by omega
                rcases HG7.out with h | ⟨g5, o5, cc, cs5, e5, hg5, hL5, hs5⟩
                · omega
                injection e5 with q1 q2 q3
                subst q1 q3
                have HL5 := Lib.hid hL5
                clear hL5 q2
                go_wp2_with (first | ((with_reducible refine wpl_putC none _ _ _ 3 (.tmp 132) (.const (.int .i64 (-7))) g5 (o5 + k * 3 + 1) 46 cs5 (.int .i64 (-7)) ?px ?py HL5.out ?pi ?ps rfl ?_); (case px => rfl); (case py => rfl); (case pi => omega); (case ps => kernel_rfl); (intro w8 hp8; (have HP8 := Lib.hid hp8); clear hp8)))
                go_roundw
                case rel => exact ⟨k + 1, by omega, by go_num, HB7.out.grown HP8.out.grown HB7.out.size (fun z hz => by injection hz with hz; omega), .inr ⟨g5, o5, _, _, rfl, hg5, HP8.out.lies, by simp; omega⟩, HR7.out.put HL5.out HP8.out (by decide)⟩
                case measure => simp [intOf]; omega
              · have hk2 : decide ((k : Int) < (n5 : Int)) = false := by simp; omega
                clear HG7
                go_wp2_with fail
                go_loopw [16] (fun v16 wr => DoM Y (.slice A14 n6 c14) n6 v16 wr) (fun i _ => n6 - (intOf i).toNat)
                case atStart => exact ⟨0, by omega, rfl, HB7.out, HR7.out⟩
                case round =>
                  clear HB7 HR7 hk hk1 hk2
                  obtain ⟨k, hk, rfl, hb, hr⟩ := hrel
                  have HB8 := Lib.hid hb
                  have HR8 := Lib.hid hr
                  clear hb hr
                  by_cases hk1 : k < n6
                  · have hk2 : (k : Int) < (n6 : Int) := by omega
                    rcases HR8.out with h | ⟨g5, o5, cc, cs5, e5, hg5, hL5, hs5⟩
                    · omega
                    injection e5 with q1 q2 q3
                    subst q1 q3
                    have HL5 := Lib.hid hL5
                    clear hL5 q2
                    go_wp2_with (first | ((with_reducible refine wpl_putC none _ _ _ 3 (.tmp 142) (.const (.int .i64 (-7))) g5 (o5 + k * 4 + 3) 48 cs5 (.int .i64 (-7)) ?px ?py HL5.out ?pi ?ps rfl ?_); (case px => rfl); (case py => rfl); (case pi => omega); (case ps => kernel_rfl); (intro w8 hp8; (have HP8 := Lib.hid hp8); clear hp8)))
                    go_roundw
                    case rel => exact ⟨k + 1, by omega, by go_num, HB8.out.grown HP8.out.grown HB8.out.size (fun z hz => by injection hz with hz; omega), .inr ⟨g5, o5, _, _, rfl, hg5, HP8.out.lies, by simp; omega⟩⟩
                    case measure => simp [intOf]; omega
                  · have hk2 : decide ((k : Int) < (n6 : Int)) = false := by simp; omega
                    go_wp2_with fail
                    go_roundw
                    case rel => exact ⟨j + 1, qq, vF, vL4, rr, by omega, by omega, by go_num, D4.out.below HB8.out, HH4.out⟩
                    case measure => simp [intOf]; omega
          · have e2 : decide ((j : Int) < 120) = false := by simp; omega
            go_wp2_with fail
            with_reducible refine (HK.out _).mono ?_
            rintro e w9 ⟨rfl, hb⟩
            have S_9 := Lib.hid (D_2.out.s.below hb)
            clear hb
            go_wp2
            go_ret
            exact ⟨rfl, S_9.out.bel⟩
        · have hnl : decide ((j : Int) < (m : Int)) = false := by simp; omega
          go_wp2_with fail
          with_reducible refine (HK.out _).mono ?_
          rintro e w9 ⟨rfl, hb⟩
          have S_9 := Lib.hid (D_2.out.s.below hb)
          clear hb
          go_wp2
          go_ret
          exact ⟨rfl, S_9.out.bel⟩

end Go.Proofs.Ytlgdjmmhdfpfeaa
