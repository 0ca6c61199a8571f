/-
  The walk of StockDoes.
-/
import Derived.Test.YtimoobhnhldgbaaDoesP
import Derived.Test.YtimoobhnhldgbaaMostWalk
import Derived.Test.YtimoobhnhldgbaaSumWalk
import Derived.Deep.CutRange
import Derived.Deep.CutBlock
namespace Go.Proofs.Ytimoobhnhldgbaa
open Go.Proofs Go.RowKit
set_option maxRecDepth 100000
set_option linter.unusedVariables false
set_option linter.unusedSimpArgs false

def DoR (w : World) (a : List Ac) (b : SB) (B g : Nat) (v11 : Value) (wr : World) : Prop := ∃ (j : Nat) (q : Ss) (vF vL vA : Value) (r : Rs), j ≤ a.length ∧ j ≤ 120 ∧ v11 = .int .i64 (j : Int) ∧ DW w wr b q B g vF vL vA r ∧ q.H.length ≤ j ∧ r.A.length ≤ j
def DoK (Y : World) (v15 v16 : Value) (n5 n6 : Nat) (v17 : Value) (wr : World) : Prop := ∃ k : Nat, k ≤ n5 ∧ v17 = .int .i64 (k : Int) ∧ Below Y.heap.size Y wr ∧ RowW wr Y.heap.size 46 2 v15 n5 ∧ RowW wr Y.heap.size 48 3 v16 n6
def DoM (Y : World) (v16 : Value) (n6 : Nat) (v18 : Value) (wr : World) : Prop := ∃ k : Nat, k ≤ n6 ∧ v18 = .int .i64 (k : Int) ∧ Below Y.heap.size Y wr ∧ RowW wr Y.heap.size 48 3 v16 n6
theorem Rel.len {q : Ss} {r : Rs} (h : Rel q r) : r.L.length = q.H.length := h.p.length_eq.symm
theorem rsh {r : Rs} {t : Int} {o : Nat} {x : List UInt8} {n : Int} (h : t = 0 ∨ t = 1) : rholdS r o x n = rstep r ⟨t, o, x, n⟩ ∧ rholdV r o x n = rstepV r ⟨t, o, x, n⟩ := by
  unfold rstep rstepV
  dsimp only
  rw [if_pos h, if_pos h]
  exact ⟨rfl, rfl⟩
theorem rs2 {r : Rs} {t : Int} {o : Nat} {x : List UInt8} {n : Int} (h : t = 2) : rleaveS r o false = rstep r ⟨t, o, x, n⟩ ∧ rleaveV r o = rstepV r ⟨t, o, x, n⟩ := by
  have hn : ¬ (t = 0 ∨ t = 1) := by omega
  unfold rstep rstepV
  dsimp only
  rw [if_neg hn, if_neg hn, if_pos h]
  exact ⟨rfl, rfl⟩
theorem rs3 {r : Rs} {t : Int} {o : Nat} {x : List UInt8} {n : Int} (h : ¬ (t = 0 ∨ t = 1)) (h2 : t ≠ 2) : rleaveS r o true = rstep r ⟨t, o, x, n⟩ ∧ rleaveV r o = rstepV r ⟨t, o, x, n⟩ := by
  unfold rstep rstepV
  dsimp only
  rw [if_neg h, if_neg h, if_neg h2]
  exact ⟨rfl, rfl⟩
def DoC (w0 W : World) (b : SB) (q : Ss) (B g bx : Nat) (vF vL vA : Value) (r : Rs) (n5 n6 : Nat) (v15 v16 : Value) (Y : World) : Prop := Below Y.heap.size Y W ∧ RowW W Y.heap.size 46 2 v15 n5 ∧ RowW W Y.heap.size 48 3 v16 n6

set_option maxHeartbeats 16000000 in
theorem stockDoes_walk (A : Option Addr) (n c : Nat) (l : List Gd) (B : Option Addr) (m d : Nat) (a : List Ac) (x : List UInt8) (w : World) (hG : Gin w A n l) (hn : n ≤ maxLen) (hL : GoodsOk l) (hA : Ain w B m a) (hm : m ≤ maxLen) (hAO : ActsOk a) (hx : x.length ≤ maxLen)
    (KN : ∀ W, Calls Try.prog 10 #[] W fun e w' => e = .returned (.bool true) ∧ Below W.heap.size W w') :
    Calls Try.prog 3 #[.slice A n c, .slice B m d, encStr x] w fun e w' => e = .returned (.bool true) ∧ Below w.heap.size w w' := by
  have HG := Lib.hid hG
  have HA := Lib.hid hA
  have HL := Lib.hid hL
  have HAO := Lib.hid hAO
  have HN := Lib.hid hG.1
  have HM := Lib.hid hA.1
  have HK := Lib.hid KN
  have HC := Lib.hid (long_any A n c l B m d a w hG hA hm hn)
  have hmm : (m : Int) ≤ 9223372036854775807 := by unfold maxLen at hm; omega
  clear hG hA hL hAO KN hm
  go_enter Try.func3, Try.ntmps3
  go_wp2_with fail
  with_reducible refine HC.out.mono ?_
  rintro e w1 ⟨rfl, rfl | ⟨rfl, hs⟩⟩
  · go_wp2_with fail
    with_reducible refine (HK.out _).mono ?_
    rintro e w2 ⟨rfl, hb⟩
    have HB := Lib.hid hb
    clear hb
    go_wp2
    go_ret
    exact ⟨rfl, HB.out⟩
  · have HS := Lib.hid hs
    have hn2 : n ≤ 200 := by have := hs.1; have := HN.out; omega
    clear hs HC hn
    go_wp2_with fail
    with_reducible refine (sw_new (Below.refl _ _) A n c l HG.out (by omega) HS.out.names).mono ?_
    rintro e w1 ⟨hb, ⟨h1, rfl⟩ | ⟨K, b, h1, rfl, hs, -⟩⟩
    · have HB := Lib.hid hb
      have HN1 := Lib.hid h1
      clear hb h1
      go_wp2_with fail
      with_reducible refine (rnew_any A n c l w1 (HG.out.below HB.out) (by omega)).mono ?_
      rintro e w2 ⟨hb, ⟨-, rfl⟩ | ⟨K2, g, vF, vL, vA, h2, -⟩⟩
      · have HB1 := Lib.hid (HB.out.trans (hb.mono HB.out.size))
        clear hb
        go_wp2_with fail
        with_reducible refine (HK.out _).mono ?_
        rintro e w3 ⟨rfl, hb⟩
        have HB2 := Lib.hid (HB1.out.trans (hb.mono HB1.out.size))
        clear hb
        go_wp2
        go_ret
        exact ⟨rfl, HB2.out⟩
      · rw [HN1.out] at h2
        cases h2
    · have S_1 := Lib.hid hs
      have HN1 := Lib.hid h1
      clear hb h1 hs
      go_wp2_with fail
      with_reducible refine (rnew_any A n c l w1 (HG.out.below (S_1.out.bel)) (by omega)).mono ?_
      rintro e w2 ⟨hb, ⟨h1', -⟩ | ⟨K2, g, vF, vL, vA, h2, rfl, hr⟩⟩
      · rw [HN1.out] at h1'; cases h1'
      obtain rfl : K = K2 := by have := HN1.out.symm.trans h2; injection this
      have hD : DW w w2 b ⟨K, []⟩ w1.heap.size g vF vL vA ⟨goodsL K, [], []⟩ := ⟨S_1.out.below hb, hr, Rel.start h2, ⟨S_1.out.ok.c.lt, S_1.out.ok.ok.lt, S_1.out.ok.oh.lt⟩, S_1.out.bel.size, hb.size⟩
      obtain ⟨B, hB⟩ : ∃ B, B = w1.heap.size := ⟨_, rfl⟩
      rw [← hB] at hD
      have D_1 := Lib.hid hD
      clear hD hr hb h2 hB S_1
      go_wp2_with fail
      go_loopw [11, 12, 13, 14, 15, 16, 17, 18] (fun i _ _ _ _ _ _ _ wr => DoR w a b B g i wr) (fun i _ _ _ _ _ _ _ _ => 121 - (intOf i).toNat)
      case atStart => exact ⟨0, ⟨K, []⟩, vF, vL, vA, _, by omega, by omega, rfl, D_1.out, Nat.le_refl _, Nat.le_refl _⟩
      case round =>
        clear D_1
        obtain ⟨j, q, vF, vL, vA, r, hj, hj2, rfl, hD, hH, hAl⟩ := hrel
        have D_2 := Lib.hid hD
        have HH := Lib.hid hH
        have HAA := Lib.hid hAl
        clear hD hH hAl
        have hjm : j ≤ m := by have := HM.out; omega
        by_cases hlt : j < m
        · have hlt2 : (j : Int) < (m : Int) := by omega
          by_cases hq3 : j < 120
          · have e2 : decide ((j : Int) < 120) = true := by simp; omega
            have hlt3 : j < a.length := by have := HM.out; omega
            obtain ⟨b0, off, rfl, hbl, hcell⟩ := HA.out.2 (by omega)
            obtain ⟨x0, x1, x2, x3⟩ := hcell j hlt3
            obtain ⟨xx, hxx⟩ : ∃ z, a[j] = z := ⟨_, rfl⟩
            have HXO : Hid (in64 xx.t ∧ xx.o < 4294967296 ∧ xx.x.length ≤ maxLen ∧ in64 xx.n) := Lib.hid (by have := HAO.out a[j] (List.getElem_mem hlt3); rwa [hxx] at this)
            rw [hxx] at x0 x1 x2 x3
            clear hcell hxx
            obtain ⟨xt, xo, xn, xk⟩ := xx
            dsimp only at x0 x1 x2 x3 HXO
            have HX0 := Lib.hid x0
            have HX1 := Lib.hid x1
            have HX2 := Lib.hid x2
            have HX3 := Lib.hid x3
            clear x0 x1 x2 x3
            have x0 := HX0.out
            have x1 := HX1.out
            have x2 := HX2.out
            have x3 := HX3.out
            rw [← D_2.out.s.bel.cell (p := ⟨b0, off + j * 4, none⟩) hbl] at x0
            rw [← D_2.out.s.bel.cell (p := ⟨b0, off + j * 4 + 1, none⟩) hbl] at x1
            rw [← D_2.out.s.bel.cell (p := ⟨b0, off + j * 4 + 2, none⟩) hbl] at x2
            rw [← D_2.out.s.bel.cell (p := ⟨b0, off + j * 4 + 3, none⟩) hbl] at x3
            by_cases t0 : xt = 0
            · subst t0
              have LB0 := Lib.hid (Lies.made wr 35 #[.int .i64 0, .int .u32 (xo : Int), encStr xn, .int .i64 xk])
              have DB := Lib.hid (D_2.out.below (below1 wr (.cells #[.int .i64 0, .int .u32 (xo : Int), encStr xn, .int .i64 xk] 35)))
              obtain ⟨wb, hwb⟩ : ∃ wb, wb = wr.alloc (.cells #[.int .i64 0, .int .u32 (xo : Int), encStr xn, .int .i64 xk] 35) := ⟨_, rfl⟩
              go_wp2_with fail
              rw [← hwb]
              rw [← hwb] at LB0 DB
              have HBX : Hid (Below wr.heap.size wr wb) := Lib.hid (by rw [hwb]; exact below1 _ _)
              clear hwb x0 x1 x2 x3
              obtain ⟨bx, hbx⟩ : ∃ bx, bx = wr.heap.size := ⟨_, rfl⟩
              rw [← hbx]
              rw [← hbx] at LB0
              have HBXE := Lib.hid hbx
              clear hbx
              have HNB : Hid (bx ≠ b.k ∧ bx ≠ b.h ∧ bx ≠ g ∧ vL.ownBlock ≠ some bx ∧ vA.ownBlock ≠ some bx) := Lib.hid (by
                have h0 := HBXE.out
                have h1 := D_2.out.lo
                have h2 := D_2.out.hB.2
                have h3 := D_2.out.ra.c.lt
                refine ⟨by omega, by omega, by omega, fun e => ?_, fun e => ?_⟩
                · have := (D_2.out.ra.l.block _ e).2; omega
                · have := (D_2.out.ra.a.block _ e).2; omega)
              with_reducible refine (sw_act DB.out.s 0 xo xn xk HXO.out.2.1 HXO.out.2.2.1 HXO.out.2.2.2 (by have := HH.out; omega)).mono ?_
              rintro e w3 ⟨rfl, hs, hf⟩
              have S3 := Lib.hid hs
              have F3 := Lib.hid hf
              have R3 := Lib.hid (DB.out.ra.frm hf DB.out.lo.2.1 DB.out.lo.2.2)
              have LB3 := Lib.hid (hf.lies LB0.out HNB.out.1 HNB.out.2.1)
              clear hs hf
              obtain ⟨p0, p1, p2, p3⟩ := LB3.out.cells4
              skip
              go_wp2_with fail
              with_reducible refine (rhold_any B g vF vL vA r xo xn xk w3 R3.out (DB.out.rel.fok DB.out.s.inv) (DB.out.rel.sumL DB.out.s.inv (by rw [DB.out.rel.len]; have := HH.out; omega)) (DB.out.rel.sumA (by have := HAA.out; omega)) (Nat.le_trans DB.out.hB.2 F3.out.size)).mono ?_
              rintro e w4 ⟨rfl, vL4, vA4, hr, hf⟩
              have ER := Lib.hid (show rholdS r xo xn xk = rstep r ⟨0, xo, xn, xk⟩ ∧ rholdV r xo xn xk = rstepV r ⟨0, xo, xn, xk⟩ from rsh (.inl rfl))
              rw [ER.out.2, DB.out.rel.stepV DB.out.s.inv]
              have D4 := Lib.hid (DB.out.act S3.out F3.out hr hf ER.out.1)
              have LB4 := Lib.hid (hf.lies LB3.out HNB.out.2.2.1 HNB.out.2.2.2.1 HNB.out.2.2.2.2)
              have HH4 : Hid ((actS q ⟨0, xo, xn, xk⟩).H.length ≤ 121) := Lib.hid (by have := (actS_len q ⟨0, xo, xn, xk⟩).1; have := HH.out; omega)
              have HA4 : Hid ((rstep r ⟨0, xo, xn, xk⟩).A.length ≤ 121) := Lib.hid (by have := (rstep_len r ⟨0, xo, xn, xk⟩).2; have := HAA.out; omega)
              have HHJ : Hid ((actS q ⟨0, xo, xn, xk⟩).H.length ≤ j + 1 ∧ (rstep r ⟨0, xo, xn, xk⟩).A.length ≤ j + 1) := Lib.hid ⟨by have := (actS_len q ⟨0, xo, xn, xk⟩).1; have := HH.out; omega, by have := (rstep_len r ⟨0, xo, xn, xk⟩).2; have := HAA.out; omega⟩
              clear hr hf p0 p1 p2 p3 ER
              obtain ⟨qq, hqq⟩ : ∃ z, actS q ⟨0, xo, xn, xk⟩ = z := ⟨_, rfl⟩
              obtain ⟨rr, hrr⟩ : ∃ z, rstep r ⟨0, xo, xn, xk⟩ = z := ⟨_, rfl⟩
              obtain ⟨vv, hvv⟩ : ∃ z, verd (actV q ⟨0, xo, xn, xk⟩) = z := ⟨_, rfl⟩
              rw [hqq, hrr] at D4
              rw [hqq] at HH4 HHJ
              rw [hrr] at HA4 HHJ
              rw [hvv]
              clear hqq hrr hvv S3 F3 R3 LB3 DB
              go_wp2_with fail
              with_reducible refine (goods_any b qq w4 D4.out.s.ok D4.out.s.inv.ks (by have := D4.out.s.inv.kz; omega)).mono ?_
              rintro e w5 ⟨v15, rfl, hg5, hb⟩
              have D5 := Lib.hid (D4.out.below hb)
              have LB5 := Lib.hid (LB4.out.below hb LB4.out.lt)
              have G5 := Lib.hid hg5
              have B5 := Lib.hid hb
              clear hg5 hb
              go_wp2_with fail
              with_reducible refine (holds_any b qq w5 D5.out.s.ok D5.out.s.inv.hs (by have := HH4.out; omega)).mono ?_
              rintro e w6 ⟨v16, rfl, hr6, hb⟩
              obtain ⟨Y, hY⟩ : ∃ Y, Y = w4 := ⟨_, rfl⟩
              have D6 := Lib.hid (D5.out.below hb)
              have LB6 := Lib.hid (LB5.out.below hb LB5.out.lt)
              have G6 := Lib.hid (show OwnG w6 Y.heap.size v15 (goodsL qq.K) from by rw [hY]; exact G5.out.below hb)
              have R6 := Lib.hid (show OwnR w6 Y.heap.size v16 qq.H from by rw [hY]; exact hr6.low B5.out.size)
              have B6 := Lib.hid (show Below Y.heap.size Y w6 from by rw [hY]; exact B5.out.trans (hb.mono B5.out.size))
              have DY := Lib.hid (show DW w Y b qq B g vF vL4 vA4 rr from by rw [hY]; exact D4.out)
              have HH6 := HH4
              have HA6 := HA4
              clear hr6 hb hY D4 D5 G5 B5 LB4 LB5
              go_upto_region 24 with fail
              go_cut [131] from 51 to 151 (fun s131 W => s131 = .bool false ∧ Below Y.heap.size Y W ∧ RowW W Y.heap.size 46 2 v15 (goodsL qq.K).length ∧ RowW W Y.heap.size 48 3 v16 qq.H.length)
              case first =>
                refine wp_region_noPanic ?_
                refine wp_region_held_drew (S := fun W => Lies W bx 35 #[.int .i64 0, .int .u32 (xo : Int), encStr xn, .int .i64 xk]) (by kernel_rfl) LB6.out (fun hH0 => ?_)
                generalize hwd : w6.drew = wd at *
                have D7 := Lib.hid (show DW w wd b qq B g vF vL4 vA4 rr from by rw [← hwd]; exact D6.out.below ((Below.refl _ _).drew))
                have LB7 := Lib.hid (show Lies wd bx 35 #[.int .i64 0, .int .u32 (xo : Int), encStr xn, .int .i64 xk] from by rw [← hwd]; exact LB6.out)
                have G7 := Lib.hid (show OwnG wd Y.heap.size v15 (goodsL qq.K) from by rw [← hwd]; exact G6.out)
                have R7 := Lib.hid (show OwnR wd Y.heap.size v16 qq.H from by rw [← hwd]; exact R6.out)
                have B7 := Lib.hid (show Below Y.heap.size Y wd from by rw [← hwd]; exact B6.out.drew)
                clear hwd
                refine any_take 0 95 ?ver0 rfl rfl (by kernel_rfl) (by kernel_rfl) (by kernel_rfl) (fun _ _ _ h => h) (by rfl) ?hyer0 hH0 ?rester0
                case hyer0 => ((intro W hSw); obtain ⟨o0, o1, o2, o3⟩ := Lies.cells4 hSw; go_simp; (try with_reducible rfl))
                try simp only [Act.put, List.setIfInBounds_toArray, List.set_cons_zero, List.set_cons_succ]
                refine any_take 1 96 ?ver1 rfl rfl (by kernel_rfl) (by kernel_rfl) (by kernel_rfl) (fun _ _ _ h => h) (by rfl) ?hyer1 hH0 ?rester1
                case hyer1 => ((intro W hSw); obtain ⟨o0, o1, o2, o3⟩ := Lies.cells4 hSw; go_simp; (try with_reducible rfl))
                try simp only [Act.put, List.setIfInBounds_toArray, List.set_cons_zero, List.set_cons_succ]
                refine any_take 2 97 ?ver2 rfl rfl (by kernel_rfl) (by kernel_rfl) (by kernel_rfl) (fun _ _ _ h => h) (by rfl) ?hyer2 hH0 ?rester2
                case hyer2 => ((intro W hSw); obtain ⟨o0, o1, o2, o3⟩ := Lies.cells4 hSw; go_simp; (try with_reducible rfl))
                try simp only [Act.put, List.setIfInBounds_toArray, List.set_cons_zero, List.set_cons_succ]
                refine any_take 3 98 ?ver3 rfl rfl (by kernel_rfl) (by kernel_rfl) (by kernel_rfl) (fun _ _ _ h => h) (by rfl) ?hyer3 hH0 ?rester3
                case hyer3 => ((intro W hSw); obtain ⟨o0, o1, o2, o3⟩ := Lies.cells4 hSw; go_simp; (try with_reducible rfl))
                try simp only [Act.put, List.setIfInBounds_toArray, List.set_cons_zero, List.set_cons_succ]
                refine any_take 4 99 ?ver4 rfl rfl (by kernel_rfl) (by kernel_rfl) (by kernel_rfl) (fun _ _ _ h => h) (by rfl) ?hyer4 hH0 ?rester4
                case hyer4 => ((intro W hSw); obtain ⟨o0, o1, o2, o3⟩ := Lies.cells4 hSw; go_simp; (try with_reducible rfl))
                try simp only [Act.put, List.setIfInBounds_toArray, List.set_cons_zero, List.set_cons_succ]
                refine any_take 5 100 ?ver5 rfl rfl (by kernel_rfl) (by kernel_rfl) (by kernel_rfl) (fun _ _ _ h => h) (by rfl) ?hyer5 hH0 ?rester5
                case hyer5 => ((intro W hSw); obtain ⟨o0, o1, o2, o3⟩ := Lies.cells4 hSw; go_simp; (try with_reducible rfl))
                try simp only [Act.put, List.setIfInBounds_toArray, List.set_cons_zero, List.set_cons_succ]
                refine wpAnyH_ready (rs := [6]) (by kernel_rfl) (by simp) ?_
                refine AllReadyH.cons rfl (fun K hK => ?_) AllReadyH.nil
                go_simp
                go_at_call 19
                with_reducible refine (rgoods_any B g vF vL4 vA4 rr wd D7.out.ra (D7.out.rel.fok D7.out.s.inv) (D7.out.rel.sumL D7.out.s.inv (by rw [D7.out.rel.len]; have := HH6.out; omega)) (D7.out.rel.sumA (by have := HA6.out; omega))).mono ?_
                rintro e w8 ⟨vx, rfl, ho, hb⟩
                rw [D7.out.rel.goods D7.out.s.inv] at ho
                have GX := Lib.hid ho
                have D8 := Lib.hid (D7.out.below hb)
                have LB8 := Lib.hid (LB7.out.below hb LB7.out.lt)
                have G8 := Lib.hid (G7.out.below hb)
                have R8 := Lib.hid (R7.out.below hb)
                have B8 := Lib.hid (B7.out.trans (hb.mono B7.out.size))
                clear ho hb
                refine hK.out _ _ LB8.out (fun hH1 => ?_)
                clear hK K
                try simp only [Act.put, List.setIfInBounds_toArray, List.set_cons_zero, List.set_cons_succ]
                refine wpAnyH_ready (rs := [7]) (by kernel_rfl) (by simp) ?_
                refine AllReadyH.cons rfl (fun K hK => ?_) AllReadyH.nil
                go_simp
                go_at_call 18
                with_reducible refine (sameG_own Y.heap.size wd.heap.size v15 vx (goodsL qq.K) w8 G8.out GX.out (by rw [goods_len]; have := D8.out.s.inv.kz; omega)).mono ?_
                rintro e w9 ⟨rfl, hb⟩
                have D9 := Lib.hid (D8.out.below hb)
                have LB9 := Lib.hid (LB8.out.below hb LB8.out.lt)
                have G9 := Lib.hid (G8.out.below hb)
                have R9 := Lib.hid (R8.out.below hb)
                have B9 := Lib.hid (B8.out.trans (hb.mono B8.out.size))
                clear hb
                refine hK.out _ _ LB9.out (fun hH2 => ?_)
                clear hK K
                try simp only [Act.put, List.setIfInBounds_toArray, List.set_cons_zero, List.set_cons_succ]
                refine any_take 8 103 ?ver8 rfl rfl (by kernel_rfl) (by kernel_rfl) (by kernel_rfl) (fun _ _ _ h => h) (by rfl) ?hyer8 hH2 ?rester8
                case hyer8 => ((intro W hSw); obtain ⟨o0, o1, o2, o3⟩ := Lies.cells4 hSw; go_simp; (try with_reducible rfl))
                try simp only [Act.put, List.setIfInBounds_toArray, List.set_cons_zero, List.set_cons_succ]
                refine any_take 9 104 ?ver9 rfl rfl (by kernel_rfl) (by kernel_rfl) (by kernel_rfl) (fun _ _ _ h => h) (by rfl) ?hyer9 hH2 ?rester9
                case hyer9 => ((intro W hSw); obtain ⟨o0, o1, o2, o3⟩ := Lies.cells4 hSw; go_simp; (try with_reducible rfl))
                try simp only [Act.put, List.setIfInBounds_toArray, List.set_cons_zero, List.set_cons_succ]
                refine any_take 10 105 ?ver10 rfl rfl (by kernel_rfl) (by kernel_rfl) (by kernel_rfl) (fun _ _ _ h => h) (by rfl) ?hyer10 hH2 ?rester10
                case hyer10 => ((intro W hSw); obtain ⟨o0, o1, o2, o3⟩ := Lies.cells4 hSw; go_simp; (try with_reducible rfl))
                try simp only [Act.put, List.setIfInBounds_toArray, List.set_cons_zero, List.set_cons_succ]
                refine any_take 11 106 ?ver11 rfl rfl (by kernel_rfl) (by kernel_rfl) (by kernel_rfl) (fun _ _ _ h => h) (by rfl) ?hyer11 hH2 ?rester11
                case hyer11 => ((intro W hSw); obtain ⟨o0, o1, o2, o3⟩ := Lies.cells4 hSw; go_simp; (try with_reducible rfl))
                try simp only [Act.put, List.setIfInBounds_toArray, List.set_cons_zero, List.set_cons_succ]
                refine any_take 12 107 ?ver12 rfl rfl (by kernel_rfl) (by kernel_rfl) (by kernel_rfl) (fun _ _ _ h => h) (by rfl) ?hyer12 hH2 ?rester12
                case hyer12 => ((intro W hSw); obtain ⟨o0, o1, o2, o3⟩ := Lies.cells4 hSw; go_simp; (try with_reducible rfl))
                try simp only [Act.put, List.setIfInBounds_toArray, List.set_cons_zero, List.set_cons_succ]
                refine wpAnyH_ready (rs := [13]) (by kernel_rfl) (by simp) ?_
                refine AllReadyH.cons rfl (fun K hK => ?_) AllReadyH.nil
                go_simp
                go_at_call 21
                with_reducible refine (rholds_any B g vF vL4 vA4 rr qq.H w9 D9.out.ra D9.out.s.inv.hs D9.out.rel.p (fun z hz => (D9.out.s.inv.hh z hz).2.1) (by have := HH6.out; omega)).mono ?_
                rintro e w10 ⟨vy, rfl, ho, hb⟩
                have RX := Lib.hid ho
                have D10 := Lib.hid (D9.out.below hb)
                have LB10 := Lib.hid (LB9.out.below hb LB9.out.lt)
                have G10 := Lib.hid (G9.out.below hb)
                have R10 := Lib.hid (R9.out.below hb)
                have B10 := Lib.hid (B9.out.trans (hb.mono B9.out.size))
                clear ho hb
                refine hK.out _ _ LB10.out (fun hH3 => ?_)
                clear hK K
                try simp only [Act.put, List.setIfInBounds_toArray, List.set_cons_zero, List.set_cons_succ]
                refine wpAnyH_ready (rs := [14]) (by kernel_rfl) (by simp) ?_
                refine AllReadyH.cons rfl (fun K hK => ?_) AllReadyH.nil
                go_simp
                go_at_call 20
                with_reducible refine (sameH_own Y.heap.size w9.heap.size v16 vy qq.H w10 R10.out RX.out (by have := HH6.out; omega)).mono ?_
                rintro e w11 ⟨rfl, hb⟩
                have D11 := Lib.hid (D10.out.below hb)
                have LB11 := Lib.hid (LB10.out.below hb LB10.out.lt)
                have G11 := Lib.hid (G10.out.below hb)
                have R11 := Lib.hid (R10.out.below hb)
                have B11 := Lib.hid (B10.out.trans (hb.mono B10.out.size))
                clear hb
                refine hK.out _ _ LB11.out (fun hH4 => ?_)
                clear hK K
                try simp only [Act.put, List.setIfInBounds_toArray, List.set_cons_zero, List.set_cons_succ]
                refine any_take 15 110 ?ver15 rfl rfl (by kernel_rfl) (by kernel_rfl) (by kernel_rfl) (fun _ _ _ h => h) (by rfl) ?hyer15 hH4 ?rester15
                case hyer15 => ((intro W hSw); obtain ⟨o0, o1, o2, o3⟩ := Lies.cells4 hSw; go_simp; (try with_reducible rfl))
                try simp only [Act.put, List.setIfInBounds_toArray, List.set_cons_zero, List.set_cons_succ]
                refine any_take 16 111 ?ver16 rfl rfl (by kernel_rfl) (by kernel_rfl) (by kernel_rfl) (fun _ _ _ h => h) (by rfl) ?hyer16 hH4 ?rester16
                case hyer16 => ((intro W hSw); obtain ⟨o0, o1, o2, o3⟩ := Lies.cells4 hSw; go_simp; (try with_reducible rfl))
                try simp only [Act.put, List.setIfInBounds_toArray, List.set_cons_zero, List.set_cons_succ]
                refine any_take 17 112 ?ver17 rfl rfl (by kernel_rfl) (by kernel_rfl) (by kernel_rfl) (fun _ _ _ h => h) (by rfl) ?hyer17 hH4 ?rester17
                case hyer17 => ((intro W hSw); obtain ⟨o0, o1, o2, o3⟩ := Lies.cells4 hSw; go_simp; (try with_reducible rfl))
                try simp only [Act.put, List.setIfInBounds_toArray, List.set_cons_zero, List.set_cons_succ]
                refine any_take 18 113 ?ver18 rfl rfl (by kernel_rfl) (by kernel_rfl) (by kernel_rfl) (fun _ _ _ h => h) (by rfl) ?hyer18 hH4 ?rester18
                case hyer18 => ((intro W hSw); obtain ⟨o0, o1, o2, o3⟩ := Lies.cells4 hSw; go_simp; (try with_reducible rfl))
                try simp only [Act.put, List.setIfInBounds_toArray, List.set_cons_zero, List.set_cons_succ]
                refine any_take 19 114 ?ver19 rfl rfl (by kernel_rfl) (by kernel_rfl) (by kernel_rfl) (fun _ _ _ h => h) (by rfl) ?hyer19 hH4 ?rester19
                case hyer19 => ((intro W hSw); obtain ⟨o0, o1, o2, o3⟩ := Lies.cells4 hSw; go_simp; (try with_reducible rfl))
                try simp only [Act.put, List.setIfInBounds_toArray, List.set_cons_zero, List.set_cons_succ]
                refine any_take 21 116 ?ver21 rfl rfl (by kernel_rfl) (by kernel_rfl) (by kernel_rfl) (fun _ _ _ h => h) (by rfl) ?hyer21 hH4 ?rester21
                case hyer21 => ((intro W hSw); obtain ⟨o0, o1, o2, o3⟩ := Lies.cells4 hSw; go_simp; (try with_reducible rfl))
                try simp only [Act.put, List.setIfInBounds_toArray, List.set_cons_zero, List.set_cons_succ]
                refine any_take 22 117 ?ver22 rfl rfl (by kernel_rfl) (by kernel_rfl) (by kernel_rfl) (fun _ _ _ h => h) (by rfl) ?hyer22 hH4 ?rester22
                case hyer22 => ((intro W hSw); obtain ⟨o0, o1, o2, o3⟩ := Lies.cells4 hSw; go_simp; (try with_reducible rfl))
                try simp only [Act.put, List.setIfInBounds_toArray, List.set_cons_zero, List.set_cons_succ]
                have HAX := Lib.hid (D11.out.rel.a x)
                have HAN := Lib.hid (D11.out.rel.a xn)
                refine wpAnyH_ready (rs := [20]) (by kernel_rfl) (by simp) ?_
                refine AllReadyH.cons rfl (fun K hK => ?_) AllReadyH.nil
                go_simp
                with_reducible refine (sw_gone D11.out.s x hx).mono ?_
                rintro e w12 ⟨he, rfl⟩; (try rw [HAX.out] at he); (try rw [HAN.out] at he); subst he
                refine hK.out _ _ LB11.out (fun hH5 => ?_)
                clear hK K
                try simp only [Act.put, List.setIfInBounds_toArray, List.set_cons_zero, List.set_cons_succ]
                refine wpAnyH_ready (rs := [23]) (by kernel_rfl) (by simp) ?_
                refine AllReadyH.cons rfl (fun K hK => ?_) AllReadyH.nil
                go_simp
                with_reducible refine (rgone_any B g vF vL4 vA4 rr x w11 D11.out.ra (D11.out.rel.sumA (by have := HA6.out; omega))).mono ?_
                rintro e w12 ⟨he, rfl⟩; (try rw [HAX.out] at he); (try rw [HAN.out] at he); subst he
                refine hK.out _ _ LB11.out (fun hH5b => ?_)
                clear hK K
                try simp only [Act.put, List.setIfInBounds_toArray, List.set_cons_zero, List.set_cons_succ]
                refine any_take 24 119 ?vera24 rfl rfl (by kernel_rfl) (by kernel_rfl) (by kernel_rfl) (fun _ _ _ h => h) (by rfl) ?hyera24 hH5b ?restera24
                case hyera24 => ((intro W hSw); obtain ⟨o0, o1, o2, o3⟩ := Lies.cells4 hSw; go_simp; (try with_reducible rfl))
                try simp only [Act.put, List.setIfInBounds_toArray, List.set_cons_zero, List.set_cons_succ]
                refine any_take 25 120 ?vera25 rfl rfl (by kernel_rfl) (by kernel_rfl) (by kernel_rfl) (fun _ _ _ h => h) (by rfl) ?hyera25 hH5b ?restera25
                case hyera25 => ((intro W hSw); obtain ⟨o0, o1, o2, o3⟩ := Lies.cells4 hSw; go_simp; (try with_reducible rfl))
                try simp only [Act.put, List.setIfInBounds_toArray, List.set_cons_zero, List.set_cons_succ]
                refine any_take 26 121 ?vera26 rfl rfl (by kernel_rfl) (by kernel_rfl) (by kernel_rfl) (fun _ _ _ h => h) (by rfl) ?hyera26 hH5b ?restera26
                case hyera26 => ((intro W hSw); obtain ⟨o0, o1, o2, o3⟩ := Lies.cells4 hSw; go_simp; (try with_reducible rfl))
                try simp only [Act.put, List.setIfInBounds_toArray, List.set_cons_zero, List.set_cons_succ]
                refine any_take 27 122 ?vera27 rfl rfl (by kernel_rfl) (by kernel_rfl) (by kernel_rfl) (fun _ _ _ h => h) (by rfl) ?hyera27 hH5b ?restera27
                case hyera27 => ((intro W hSw); obtain ⟨o0, o1, o2, o3⟩ := Lies.cells4 hSw; go_simp; (try with_reducible rfl))
                try simp only [Act.put, List.setIfInBounds_toArray, List.set_cons_zero, List.set_cons_succ]
                refine any_take 28 123 ?vera28 rfl rfl (by kernel_rfl) (by kernel_rfl) (by kernel_rfl) (fun _ _ _ h => h) (by rfl) ?hyera28 hH5b ?restera28
                case hyera28 => ((intro W hSw); obtain ⟨o0, o1, o2, o3⟩ := Lies.cells4 hSw; go_simp; (try with_reducible rfl))
                try simp only [Act.put, List.setIfInBounds_toArray, List.set_cons_zero, List.set_cons_succ]
                refine any_take 29 124 ?vera29 rfl rfl (by kernel_rfl) (by kernel_rfl) (by kernel_rfl) (fun _ _ _ h => h) (by rfl) ?hyera29 hH5b ?restera29
                case hyera29 => ((intro W hSw); obtain ⟨o0, o1, o2, o3⟩ := Lies.cells4 hSw; go_simp; (try with_reducible rfl))
                try simp only [Act.put, List.setIfInBounds_toArray, List.set_cons_zero, List.set_cons_succ]
                refine any_take 31 126 ?vera31 rfl rfl (by kernel_rfl) (by kernel_rfl) (by kernel_rfl) (fun _ _ _ h => h) (by rfl) ?hyera31 hH5b ?restera31
                case hyera31 => ((intro W hSw); obtain ⟨o0, o1, o2, o3⟩ := Lies.cells4 hSw; go_simp; (try with_reducible rfl))
                try simp only [Act.put, List.setIfInBounds_toArray, List.set_cons_zero, List.set_cons_succ]
                refine any_take 32 127 ?vera32 rfl rfl (by kernel_rfl) (by kernel_rfl) (by kernel_rfl) (fun _ _ _ h => h) (by rfl) ?hyera32 hH5b ?restera32
                case hyera32 => ((intro W hSw); obtain ⟨o0, o1, o2, o3⟩ := Lies.cells4 hSw; go_simp; (try with_reducible rfl))
                try simp only [Act.put, List.setIfInBounds_toArray, List.set_cons_zero, List.set_cons_succ]
                refine any_take 33 128 ?vera33 rfl rfl (by kernel_rfl) (by kernel_rfl) (by kernel_rfl) (fun _ _ _ h => h) (by rfl) ?hyera33 hH5b ?restera33
                case hyera33 => ((intro W hSw); obtain ⟨o0, o1, o2, o3⟩ := Lies.cells4 hSw; go_simp; (try with_reducible rfl))
                try simp only [Act.put, List.setIfInBounds_toArray, List.set_cons_zero, List.set_cons_succ]
                refine wpAnyH_ready (rs := [30]) (by kernel_rfl) (by simp) ?_
                refine AllReadyH.cons rfl (fun K hK => ?_) AllReadyH.nil
                go_simp
                with_reducible refine (sw_gone D11.out.s xn HXO.out.2.2.1).mono ?_
                rintro e w12 ⟨he, rfl⟩; (try rw [HAX.out] at he); (try rw [HAN.out] at he); subst he
                refine hK.out _ _ LB11.out (fun hH6 => ?_)
                clear hK K
                try simp only [Act.put, List.setIfInBounds_toArray, List.set_cons_zero, List.set_cons_succ]
                refine wpAnyH_ready (rs := [34]) (by kernel_rfl) (by simp) ?_
                refine AllReadyH.cons rfl (fun K hK => ?_) AllReadyH.nil
                go_simp
                with_reducible refine (rgone_any B g vF vL4 vA4 rr xn w11 D11.out.ra (D11.out.rel.sumA (by have := HA6.out; omega))).mono ?_
                rintro e w12 ⟨he, rfl⟩; (try rw [HAX.out] at he); (try rw [HAN.out] at he); subst he
                refine hK.out _ _ LB11.out (fun hH6b => ?_)
                clear hK K
                try simp only [Act.put, List.setIfInBounds_toArray, List.set_cons_zero, List.set_cons_succ]
                refine any_take 35 130 ?verap35 rfl rfl (by kernel_rfl) (by kernel_rfl) (by kernel_rfl) (fun _ _ _ h => h) (by rfl) ?hyerap35 hH6b ?resterap35
                case hyerap35 => ((intro W hSw); obtain ⟨o0, o1, o2, o3⟩ := Lies.cells4 hSw; go_simp; (try with_reducible rfl))
                try simp only [Act.put, List.setIfInBounds_toArray, List.set_cons_zero, List.set_cons_succ]
                refine any_take 36 131 ?verap36 rfl rfl (by kernel_rfl) (by kernel_rfl) (by kernel_rfl) (fun _ _ _ h => h) (by rfl) ?hyerap36 hH6b ?resterap36
                case hyerap36 => ((intro W hSw); obtain ⟨o0, o1, o2, o3⟩ := Lies.cells4 hSw; go_simp; (try with_reducible rfl))
                try simp only [Act.put, List.setIfInBounds_toArray, List.set_cons_zero, List.set_cons_succ]
                refine wpAnyH_done (by kernel_rfl) ?_ _
                refine NoPanic.normal ?_
                go_wp2_with fail
                go_meet
                exact ⟨rfl, B11.out, G11.out.roww, R11.out.roww⟩
              case rest =>
                obtain ⟨rfl, hbc, hg1, hr1⟩ := hcut
                have BC := Lib.hid hbc
                have GC := Lib.hid hg1
                have RC := Lib.hid hr1
                obtain ⟨A15, c15, rfl, -, -⟩ := G6.out.gin
                obtain ⟨A16, c16, rfl, -, -⟩ := R6.out.hin
                have hkz : ((goodsL qq.K).length : Int) ≤ 50 := by rw [goods_len]; have := DY.out.s.inv.kz; omega
                have hhz : (qq.H.length : Int) ≤ 121 := by have := HH6.out; omega
                clear hbc hg1 hr1 D6 LB6 G6 R6 B6
                obtain ⟨n5, hn5⟩ : ∃ z, (goodsL qq.K).length = z := ⟨_, rfl⟩
                obtain ⟨n6, hn6⟩ : ∃ z, qq.H.length = z := ⟨_, rfl⟩
                rw [hn5] at GC hkz ⊢
                rw [hn6] at RC hhz ⊢
                clear hn5 hn6
                go_wp2_with fail
                go_loopw [17] (fun v17 wr => DoK Y (.slice A15 n5 c15) (.slice A16 n6 c16) n5 n6 v17 wr) (fun i _ => n5 - (intOf i).toNat)
                case atStart => exact ⟨0, by omega, rfl, BC.out, GC.out, RC.out⟩
                case round =>
                  clear GC RC BC
                  obtain ⟨k, hk, rfl, hb, hg, hr⟩ := hrel
                  have HB7 := Lib.hid hb
                  have HG7 := Lib.hid hg
                  have HR7 := Lib.hid hr
                  clear hb hg hr
                  by_cases hk1 : k < n5
                  · have hk2 : (k : Int) < (n5 : Int) := by omega
                    rcases HG7.out with h | ⟨g5, o5, cc, cs5, e5, hg5, hL5, hs5⟩
                    · omega
                    injection e5 with q1 q2 q3
                    subst q1 q3
                    have HL5 := Lib.hid hL5
                    clear hL5 q2
                    go_wp2_with (first | ((with_reducible refine wpl_putC none _ _ _ 3 (.tmp 141) (.const (.int .i64 (-7))) g5 (o5 + k * 2 + 1) 46 cs5 (.int .i64 (-7)) ?px ?py HL5.out ?pi ?ps rfl ?_); (case px => rfl); (case py => rfl); (case pi => omega); (case ps => kernel_rfl); (intro w8 hp8; (have HP8 := Lib.hid hp8); clear hp8)))
                    go_roundw
                    case rel => exact ⟨k + 1, by omega, by go_num, HB7.out.grown HP8.out.grown HB7.out.size (fun z hz => by injection hz with hz; omega), .inr ⟨g5, o5, _, _, rfl, hg5, HP8.out.lies, by simp; omega⟩, HR7.out.put HL5.out HP8.out (by decide)⟩
                    case measure => simp [intOf]; omega
                  · have hk2 : decide ((k : Int) < (n5 : Int)) = false := by simp; omega
                    clear HG7
                    go_wp2_with fail
                    go_loopw [18] (fun v18 wr => DoM Y (.slice A16 n6 c16) n6 v18 wr) (fun i _ => n6 - (intOf i).toNat)
                    case atStart => exact ⟨0, by omega, rfl, HB7.out, HR7.out⟩
                    case round =>
                      clear HB7 HR7 hk hk1 hk2
                      obtain ⟨k, hk, rfl, hb, hr⟩ := hrel
                      have HB8 := Lib.hid hb
                      have HR8 := Lib.hid hr
                      clear hb hr
                      by_cases hk1 : k < n6
                      · have hk2 : (k : Int) < (n6 : Int) := by omega
                        rcases HR8.out with h | ⟨g5, o5, cc, cs5, e5, hg5, hL5, hs5⟩
                        · omega
                        injection e5 with q1 q2 q3
                        subst q1 q3
                        have HL5 := Lib.hid hL5
                        clear hL5 q2
                        go_wp2_with (first | ((with_reducible refine wpl_putC none _ _ _ 3 (.tmp 151) (.const (.int .i64 (-7))) g5 (o5 + k * 3 + 2) 48 cs5 (.int .i64 (-7)) ?px ?py HL5.out ?pi ?ps rfl ?_); (case px => rfl); (case py => rfl); (case pi => omega); (case ps => kernel_rfl); (intro w8 hp8; (have HP8 := Lib.hid hp8); clear hp8)))
                        go_roundw
                        case rel => exact ⟨k + 1, by omega, by go_num, HB8.out.grown HP8.out.grown HB8.out.size (fun z hz => by injection hz with hz; omega), .inr ⟨g5, o5, _, _, rfl, hg5, HP8.out.lies, by simp; omega⟩⟩
                        case measure => simp [intOf]; omega
                      · have hk2 : decide ((k : Int) < (n6 : Int)) = false := by simp; omega
                        go_wp2_with fail
                        go_roundw
                        case rel => exact ⟨j + 1, qq, vF, vL4, vA4, rr, by omega, by omega, by go_num, DY.out.below HB8.out, HHJ.out.1, HHJ.out.2⟩
                        case measure => simp [intOf]; omega
            by_cases t1 : xt = 1
            · subst t1
              have LB0 := Lib.hid (Lies.made wr 35 #[.int .i64 1, .int .u32 (xo : Int), encStr xn, .int .i64 xk])
              have DB := Lib.hid (D_2.out.below (below1 wr (.cells #[.int .i64 1, .int .u32 (xo : Int), encStr xn, .int .i64 xk] 35)))
              obtain ⟨wb, hwb⟩ : ∃ wb, wb = wr.alloc (.cells #[.int .i64 1, .int .u32 (xo : Int), encStr xn, .int .i64 xk] 35) := ⟨_, rfl⟩
              go_wp2_with fail
              rw [← hwb]
              rw [← hwb] at LB0 DB
              have HBX : Hid (Below wr.heap.size wr wb) := Lib.hid (by rw [hwb]; exact below1 _ _)
              clear hwb x0 x1 x2 x3
              obtain ⟨bx, hbx⟩ : ∃ bx, bx = wr.heap.size := ⟨_, rfl⟩
              rw [← hbx]
              rw [← hbx] at LB0
              have HBXE := Lib.hid hbx
              clear hbx
              have HNB : Hid (bx ≠ b.k ∧ bx ≠ b.h ∧ bx ≠ g ∧ vL.ownBlock ≠ some bx ∧ vA.ownBlock ≠ some bx) := Lib.hid (by
                have h0 := HBXE.out
                have h1 := D_2.out.lo
                have h2 := D_2.out.hB.2
                have h3 := D_2.out.ra.c.lt
                refine ⟨by omega, by omega, by omega, fun e => ?_, fun e => ?_⟩
                · have := (D_2.out.ra.l.block _ e).2; omega
                · have := (D_2.out.ra.a.block _ e).2; omega)
              with_reducible refine (sw_act DB.out.s 1 xo xn xk HXO.out.2.1 HXO.out.2.2.1 HXO.out.2.2.2 (by have := HH.out; omega)).mono ?_
              rintro e w3 ⟨rfl, hs, hf⟩
              have S3 := Lib.hid hs
              have F3 := Lib.hid hf
              have R3 := Lib.hid (DB.out.ra.frm hf DB.out.lo.2.1 DB.out.lo.2.2)
              have LB3 := Lib.hid (hf.lies LB0.out HNB.out.1 HNB.out.2.1)
              clear hs hf
              obtain ⟨p0, p1, p2, p3⟩ := LB3.out.cells4
              skip
              go_wp2_with fail
              with_reducible refine (rhold_any B g vF vL vA r xo xn xk w3 R3.out (DB.out.rel.fok DB.out.s.inv) (DB.out.rel.sumL DB.out.s.inv (by rw [DB.out.rel.len]; have := HH.out; omega)) (DB.out.rel.sumA (by have := HAA.out; omega)) (Nat.le_trans DB.out.hB.2 F3.out.size)).mono ?_
              rintro e w4 ⟨rfl, vL4, vA4, hr, hf⟩
              have ER := Lib.hid (show rholdS r xo xn xk = rstep r ⟨1, xo, xn, xk⟩ ∧ rholdV r xo xn xk = rstepV r ⟨1, xo, xn, xk⟩ from rsh (.inr rfl))
              rw [ER.out.2, DB.out.rel.stepV DB.out.s.inv]
              have D4 := Lib.hid (DB.out.act S3.out F3.out hr hf ER.out.1)
              have LB4 := Lib.hid (hf.lies LB3.out HNB.out.2.2.1 HNB.out.2.2.2.1 HNB.out.2.2.2.2)
              have HH4 : Hid ((actS q ⟨1, xo, xn, xk⟩).H.length ≤ 121) := Lib.hid (by have := (actS_len q ⟨1, xo, xn, xk⟩).1; have := HH.out; omega)
              have HA4 : Hid ((rstep r ⟨1, xo, xn, xk⟩).A.length ≤ 121) := Lib.hid (by have := (rstep_len r ⟨1, xo, xn, xk⟩).2; have := HAA.out; omega)
              have HHJ : Hid ((actS q ⟨1, xo, xn, xk⟩).H.length ≤ j + 1 ∧ (rstep r ⟨1, xo, xn, xk⟩).A.length ≤ j + 1) := Lib.hid ⟨by have := (actS_len q ⟨1, xo, xn, xk⟩).1; have := HH.out; omega, by have := (rstep_len r ⟨1, xo, xn, xk⟩).2; have := HAA.out; omega⟩
              clear hr hf p0 p1 p2 p3 ER
              obtain ⟨qq, hqq⟩ : ∃ z, actS q ⟨1, xo, xn, xk⟩ = z := ⟨_, rfl⟩
              obtain ⟨rr, hrr⟩ : ∃ z, rstep r ⟨1, xo, xn, xk⟩ = z := ⟨_, rfl⟩
              obtain ⟨vv, hvv⟩ : ∃ z, verd (actV q ⟨1, xo, xn, xk⟩) = z := ⟨_, rfl⟩
              rw [hqq, hrr] at D4
              rw [hqq] at HH4 HHJ
              rw [hrr] at HA4 HHJ
              rw [hvv]
              clear hqq hrr hvv S3 F3 R3 LB3 DB
              go_wp2_with fail
              with_reducible refine (goods_any b qq w4 D4.out.s.ok D4.out.s.inv.ks (by have := D4.out.s.inv.kz; omega)).mono ?_
              rintro e w5 ⟨v15, rfl, hg5, hb⟩
              have D5 := Lib.hid (D4.out.below hb)
              have LB5 := Lib.hid (LB4.out.below hb LB4.out.lt)
              have G5 := Lib.hid hg5
              have B5 := Lib.hid hb
              clear hg5 hb
              go_wp2_with fail
              with_reducible refine (holds_any b qq w5 D5.out.s.ok D5.out.s.inv.hs (by have := HH4.out; omega)).mono ?_
              rintro e w6 ⟨v16, rfl, hr6, hb⟩
              obtain ⟨Y, hY⟩ : ∃ Y, Y = w4 := ⟨_, rfl⟩
              have D6 := Lib.hid (D5.out.below hb)
              have LB6 := Lib.hid (LB5.out.below hb LB5.out.lt)
              have G6 := Lib.hid (show OwnG w6 Y.heap.size v15 (goodsL qq.K) from by rw [hY]; exact G5.out.below hb)
              have R6 := Lib.hid (show OwnR w6 Y.heap.size v16 qq.H from by rw [hY]; exact hr6.low B5.out.size)
              have B6 := Lib.hid (show Below Y.heap.size Y w6 from by rw [hY]; exact B5.out.trans (hb.mono B5.out.size))
              have DY := Lib.hid (show DW w Y b qq B g vF vL4 vA4 rr from by rw [hY]; exact D4.out)
              have HH6 := HH4
              have HA6 := HA4
              clear hr6 hb hY D4 D5 G5 B5 LB4 LB5
              go_upto_region 24 with fail
              go_cut [131] from 51 to 151 (fun s131 W => s131 = .bool false ∧ Below Y.heap.size Y W ∧ RowW W Y.heap.size 46 2 v15 (goodsL qq.K).length ∧ RowW W Y.heap.size 48 3 v16 qq.H.length)
              case first =>
                refine wp_region_noPanic ?_
                refine wp_region_held_drew (S := fun W => Lies W bx 35 #[.int .i64 1, .int .u32 (xo : Int), encStr xn, .int .i64 xk]) (by kernel_rfl) LB6.out (fun hH0 => ?_)
                generalize hwd : w6.drew = wd at *
                have D7 := Lib.hid (show DW w wd b qq B g vF vL4 vA4 rr from by rw [← hwd]; exact D6.out.below ((Below.refl _ _).drew))
                have LB7 := Lib.hid (show Lies wd bx 35 #[.int .i64 1, .int .u32 (xo : Int), encStr xn, .int .i64 xk] from by rw [← hwd]; exact LB6.out)
                have G7 := Lib.hid (show OwnG wd Y.heap.size v15 (goodsL qq.K) from by rw [← hwd]; exact G6.out)
                have R7 := Lib.hid (show OwnR wd Y.heap.size v16 qq.H from by rw [← hwd]; exact R6.out)
                have B7 := Lib.hid (show Below Y.heap.size Y wd from by rw [← hwd]; exact B6.out.drew)
                clear hwd
                refine any_take 0 95 ?vfr0 rfl rfl (by kernel_rfl) (by kernel_rfl) (by kernel_rfl) (fun _ _ _ h => h) (by rfl) ?hyfr0 hH0 ?restfr0
                case hyfr0 => ((intro W hSw); obtain ⟨o0, o1, o2, o3⟩ := Lies.cells4 hSw; go_simp; (try with_reducible rfl))
                try simp only [Act.put, List.setIfInBounds_toArray, List.set_cons_zero, List.set_cons_succ]
                refine any_take 1 96 ?vfr1 rfl rfl (by kernel_rfl) (by kernel_rfl) (by kernel_rfl) (fun _ _ _ h => h) (by rfl) ?hyfr1 hH0 ?restfr1
                case hyfr1 => ((intro W hSw); obtain ⟨o0, o1, o2, o3⟩ := Lies.cells4 hSw; go_simp; (try with_reducible rfl))
                try simp only [Act.put, List.setIfInBounds_toArray, List.set_cons_zero, List.set_cons_succ]
                refine any_take 2 97 ?vfr2 rfl rfl (by kernel_rfl) (by kernel_rfl) (by kernel_rfl) (fun _ _ _ h => h) (by rfl) ?hyfr2 hH0 ?restfr2
                case hyfr2 => ((intro W hSw); obtain ⟨o0, o1, o2, o3⟩ := Lies.cells4 hSw; go_simp; (try with_reducible rfl))
                try simp only [Act.put, List.setIfInBounds_toArray, List.set_cons_zero, List.set_cons_succ]
                refine any_take 3 98 ?vfr3 rfl rfl (by kernel_rfl) (by kernel_rfl) (by kernel_rfl) (fun _ _ _ h => h) (by rfl) ?hyfr3 hH0 ?restfr3
                case hyfr3 => ((intro W hSw); obtain ⟨o0, o1, o2, o3⟩ := Lies.cells4 hSw; go_simp; (try with_reducible rfl))
                try simp only [Act.put, List.setIfInBounds_toArray, List.set_cons_zero, List.set_cons_succ]
                refine any_take 4 99 ?vfr4 rfl rfl (by kernel_rfl) (by kernel_rfl) (by kernel_rfl) (fun _ _ _ h => h) (by rfl) ?hyfr4 hH0 ?restfr4
                case hyfr4 => ((intro W hSw); obtain ⟨o0, o1, o2, o3⟩ := Lies.cells4 hSw; go_simp; (try with_reducible rfl))
                try simp only [Act.put, List.setIfInBounds_toArray, List.set_cons_zero, List.set_cons_succ]
                refine any_take 5 100 ?vfr5 rfl rfl (by kernel_rfl) (by kernel_rfl) (by kernel_rfl) (fun _ _ _ h => h) (by rfl) ?hyfr5 hH0 ?restfr5
                case hyfr5 => ((intro W hSw); obtain ⟨o0, o1, o2, o3⟩ := Lies.cells4 hSw; go_simp; (try with_reducible rfl))
                try simp only [Act.put, List.setIfInBounds_toArray, List.set_cons_zero, List.set_cons_succ]
                refine wpAnyH_ready (rs := [6]) (by kernel_rfl) (by simp) ?_
                refine AllReadyH.cons rfl (fun K hK => ?_) AllReadyH.nil
                go_simp
                go_at_call 19
                with_reducible refine (rgoods_any B g vF vL4 vA4 rr wd D7.out.ra (D7.out.rel.fok D7.out.s.inv) (D7.out.rel.sumL D7.out.s.inv (by rw [D7.out.rel.len]; have := HH6.out; omega)) (D7.out.rel.sumA (by have := HA6.out; omega))).mono ?_
                rintro e w8 ⟨vx, rfl, ho, hb⟩
                rw [D7.out.rel.goods D7.out.s.inv] at ho
                have GX := Lib.hid ho
                have D8 := Lib.hid (D7.out.below hb)
                have LB8 := Lib.hid (LB7.out.below hb LB7.out.lt)
                have G8 := Lib.hid (G7.out.below hb)
                have R8 := Lib.hid (R7.out.below hb)
                have B8 := Lib.hid (B7.out.trans (hb.mono B7.out.size))
                clear ho hb
                refine hK.out _ _ LB8.out (fun hH1 => ?_)
                clear hK K
                try simp only [Act.put, List.setIfInBounds_toArray, List.set_cons_zero, List.set_cons_succ]
                refine wpAnyH_ready (rs := [7]) (by kernel_rfl) (by simp) ?_
                refine AllReadyH.cons rfl (fun K hK => ?_) AllReadyH.nil
                go_simp
                go_at_call 18
                with_reducible refine (sameG_own Y.heap.size wd.heap.size v15 vx (goodsL qq.K) w8 G8.out GX.out (by rw [goods_len]; have := D8.out.s.inv.kz; omega)).mono ?_
                rintro e w9 ⟨rfl, hb⟩
                have D9 := Lib.hid (D8.out.below hb)
                have LB9 := Lib.hid (LB8.out.below hb LB8.out.lt)
                have G9 := Lib.hid (G8.out.below hb)
                have R9 := Lib.hid (R8.out.below hb)
                have B9 := Lib.hid (B8.out.trans (hb.mono B8.out.size))
                clear hb
                refine hK.out _ _ LB9.out (fun hH2 => ?_)
                clear hK K
                try simp only [Act.put, List.setIfInBounds_toArray, List.set_cons_zero, List.set_cons_succ]
                refine any_take 8 103 ?vfr8 rfl rfl (by kernel_rfl) (by kernel_rfl) (by kernel_rfl) (fun _ _ _ h => h) (by rfl) ?hyfr8 hH2 ?restfr8
                case hyfr8 => ((intro W hSw); obtain ⟨o0, o1, o2, o3⟩ := Lies.cells4 hSw; go_simp; (try with_reducible rfl))
                try simp only [Act.put, List.setIfInBounds_toArray, List.set_cons_zero, List.set_cons_succ]
                refine any_take 9 104 ?vfr9 rfl rfl (by kernel_rfl) (by kernel_rfl) (by kernel_rfl) (fun _ _ _ h => h) (by rfl) ?hyfr9 hH2 ?restfr9
                case hyfr9 => ((intro W hSw); obtain ⟨o0, o1, o2, o3⟩ := Lies.cells4 hSw; go_simp; (try with_reducible rfl))
                try simp only [Act.put, List.setIfInBounds_toArray, List.set_cons_zero, List.set_cons_succ]
                refine any_take 10 105 ?vfr10 rfl rfl (by kernel_rfl) (by kernel_rfl) (by kernel_rfl) (fun _ _ _ h => h) (by rfl) ?hyfr10 hH2 ?restfr10
                case hyfr10 => ((intro W hSw); obtain ⟨o0, o1, o2, o3⟩ := Lies.cells4 hSw; go_simp; (try with_reducible rfl))
                try simp only [Act.put, List.setIfInBounds_toArray, List.set_cons_zero, List.set_cons_succ]
                refine any_take 11 106 ?vfr11 rfl rfl (by kernel_rfl) (by kernel_rfl) (by kernel_rfl) (fun _ _ _ h => h) (by rfl) ?hyfr11 hH2 ?restfr11
                case hyfr11 => ((intro W hSw); obtain ⟨o0, o1, o2, o3⟩ := Lies.cells4 hSw; go_simp; (try with_reducible rfl))
                try simp only [Act.put, List.setIfInBounds_toArray, List.set_cons_zero, List.set_cons_succ]
                refine any_take 12 107 ?vfr12 rfl rfl (by kernel_rfl) (by kernel_rfl) (by kernel_rfl) (fun _ _ _ h => h) (by rfl) ?hyfr12 hH2 ?restfr12
                case hyfr12 => ((intro W hSw); obtain ⟨o0, o1, o2, o3⟩ := Lies.cells4 hSw; go_simp; (try with_reducible rfl))
                try simp only [Act.put, List.setIfInBounds_toArray, List.set_cons_zero, List.set_cons_succ]
                refine wpAnyH_ready (rs := [13]) (by kernel_rfl) (by simp) ?_
                refine AllReadyH.cons rfl (fun K hK => ?_) AllReadyH.nil
                go_simp
                go_at_call 21
                with_reducible refine (rholds_any B g vF vL4 vA4 rr qq.H w9 D9.out.ra D9.out.s.inv.hs D9.out.rel.p (fun z hz => (D9.out.s.inv.hh z hz).2.1) (by have := HH6.out; omega)).mono ?_
                rintro e w10 ⟨vy, rfl, ho, hb⟩
                have RX := Lib.hid ho
                have D10 := Lib.hid (D9.out.below hb)
                have LB10 := Lib.hid (LB9.out.below hb LB9.out.lt)
                have G10 := Lib.hid (G9.out.below hb)
                have R10 := Lib.hid (R9.out.below hb)
                have B10 := Lib.hid (B9.out.trans (hb.mono B9.out.size))
                clear ho hb
                refine hK.out _ _ LB10.out (fun hH3 => ?_)
                clear hK K
                try simp only [Act.put, List.setIfInBounds_toArray, List.set_cons_zero, List.set_cons_succ]
                refine wpAnyH_ready (rs := [14]) (by kernel_rfl) (by simp) ?_
                refine AllReadyH.cons rfl (fun K hK => ?_) AllReadyH.nil
                go_simp
                go_at_call 20
                with_reducible refine (sameH_own Y.heap.size w9.heap.size v16 vy qq.H w10 R10.out RX.out (by have := HH6.out; omega)).mono ?_
                rintro e w11 ⟨rfl, hb⟩
                have D11 := Lib.hid (D10.out.below hb)
                have LB11 := Lib.hid (LB10.out.below hb LB10.out.lt)
                have G11 := Lib.hid (G10.out.below hb)
                have R11 := Lib.hid (R10.out.below hb)
                have B11 := Lib.hid (B10.out.trans (hb.mono B10.out.size))
                clear hb
                refine hK.out _ _ LB11.out (fun hH4 => ?_)
                clear hK K
                try simp only [Act.put, List.setIfInBounds_toArray, List.set_cons_zero, List.set_cons_succ]
                refine any_take 15 110 ?vfr15 rfl rfl (by kernel_rfl) (by kernel_rfl) (by kernel_rfl) (fun _ _ _ h => h) (by rfl) ?hyfr15 hH4 ?restfr15
                case hyfr15 => ((intro W hSw); obtain ⟨o0, o1, o2, o3⟩ := Lies.cells4 hSw; go_simp; (try with_reducible rfl))
                try simp only [Act.put, List.setIfInBounds_toArray, List.set_cons_zero, List.set_cons_succ]
                refine any_take 16 111 ?vfr16 rfl rfl (by kernel_rfl) (by kernel_rfl) (by kernel_rfl) (fun _ _ _ h => h) (by rfl) ?hyfr16 hH4 ?restfr16
                case hyfr16 => ((intro W hSw); obtain ⟨o0, o1, o2, o3⟩ := Lies.cells4 hSw; go_simp; (try with_reducible rfl))
                try simp only [Act.put, List.setIfInBounds_toArray, List.set_cons_zero, List.set_cons_succ]
                refine any_take 17 112 ?vfr17 rfl rfl (by kernel_rfl) (by kernel_rfl) (by kernel_rfl) (fun _ _ _ h => h) (by rfl) ?hyfr17 hH4 ?restfr17
                case hyfr17 => ((intro W hSw); obtain ⟨o0, o1, o2, o3⟩ := Lies.cells4 hSw; go_simp; (try with_reducible rfl))
                try simp only [Act.put, List.setIfInBounds_toArray, List.set_cons_zero, List.set_cons_succ]
                refine any_take 18 113 ?vfr18 rfl rfl (by kernel_rfl) (by kernel_rfl) (by kernel_rfl) (fun _ _ _ h => h) (by rfl) ?hyfr18 hH4 ?restfr18
                case hyfr18 => ((intro W hSw); obtain ⟨o0, o1, o2, o3⟩ := Lies.cells4 hSw; go_simp; (try with_reducible rfl))
                try simp only [Act.put, List.setIfInBounds_toArray, List.set_cons_zero, List.set_cons_succ]
                refine any_take 19 114 ?vfr19 rfl rfl (by kernel_rfl) (by kernel_rfl) (by kernel_rfl) (fun _ _ _ h => h) (by rfl) ?hyfr19 hH4 ?restfr19
                case hyfr19 => ((intro W hSw); obtain ⟨o0, o1, o2, o3⟩ := Lies.cells4 hSw; go_simp; (try with_reducible rfl))
                try simp only [Act.put, List.setIfInBounds_toArray, List.set_cons_zero, List.set_cons_succ]
                refine any_take 21 116 ?vfr21 rfl rfl (by kernel_rfl) (by kernel_rfl) (by kernel_rfl) (fun _ _ _ h => h) (by rfl) ?hyfr21 hH4 ?restfr21
                case hyfr21 => ((intro W hSw); obtain ⟨o0, o1, o2, o3⟩ := Lies.cells4 hSw; go_simp; (try with_reducible rfl))
                try simp only [Act.put, List.setIfInBounds_toArray, List.set_cons_zero, List.set_cons_succ]
                refine any_take 22 117 ?vfr22 rfl rfl (by kernel_rfl) (by kernel_rfl) (by kernel_rfl) (fun _ _ _ h => h) (by rfl) ?hyfr22 hH4 ?restfr22
                case hyfr22 => ((intro W hSw); obtain ⟨o0, o1, o2, o3⟩ := Lies.cells4 hSw; go_simp; (try with_reducible rfl))
                try simp only [Act.put, List.setIfInBounds_toArray, List.set_cons_zero, List.set_cons_succ]
                have HAX := Lib.hid (D11.out.rel.a x)
                have HAN := Lib.hid (D11.out.rel.a xn)
                refine wpAnyH_ready (rs := [20]) (by kernel_rfl) (by simp) ?_
                refine AllReadyH.cons rfl (fun K hK => ?_) AllReadyH.nil
                go_simp
                with_reducible refine (sw_gone D11.out.s x hx).mono ?_
                rintro e w12 ⟨he, rfl⟩; (try rw [HAX.out] at he); (try rw [HAN.out] at he); subst he
                refine hK.out _ _ LB11.out (fun hH5 => ?_)
                clear hK K
                try simp only [Act.put, List.setIfInBounds_toArray, List.set_cons_zero, List.set_cons_succ]
                refine wpAnyH_ready (rs := [23]) (by kernel_rfl) (by simp) ?_
                refine AllReadyH.cons rfl (fun K hK => ?_) AllReadyH.nil
                go_simp
                with_reducible refine (rgone_any B g vF vL4 vA4 rr x w11 D11.out.ra (D11.out.rel.sumA (by have := HA6.out; omega))).mono ?_
                rintro e w12 ⟨he, rfl⟩; (try rw [HAX.out] at he); (try rw [HAN.out] at he); subst he
                refine hK.out _ _ LB11.out (fun hH5b => ?_)
                clear hK K
                try simp only [Act.put, List.setIfInBounds_toArray, List.set_cons_zero, List.set_cons_succ]
                refine any_take 24 119 ?vfra24 rfl rfl (by kernel_rfl) (by kernel_rfl) (by kernel_rfl) (fun _ _ _ h => h) (by rfl) ?hyfra24 hH5b ?restfra24
                case hyfra24 => ((intro W hSw); obtain ⟨o0, o1, o2, o3⟩ := Lies.cells4 hSw; go_simp; (try with_reducible rfl))
                try simp only [Act.put, List.setIfInBounds_toArray, List.set_cons_zero, List.set_cons_succ]
                refine any_take 25 120 ?vfra25 rfl rfl (by kernel_rfl) (by kernel_rfl) (by kernel_rfl) (fun _ _ _ h => h) (by rfl) ?hyfra25 hH5b ?restfra25
                case hyfra25 => ((intro W hSw); obtain ⟨o0, o1, o2, o3⟩ := Lies.cells4 hSw; go_simp; (try with_reducible rfl))
                try simp only [Act.put, List.setIfInBounds_toArray, List.set_cons_zero, List.set_cons_succ]
                refine any_take 26 121 ?vfra26 rfl rfl (by kernel_rfl) (by kernel_rfl) (by kernel_rfl) (fun _ _ _ h => h) (by rfl) ?hyfra26 hH5b ?restfra26
                case hyfra26 => ((intro W hSw); obtain ⟨o0, o1, o2, o3⟩ := Lies.cells4 hSw; go_simp; (try with_reducible rfl))
                try simp only [Act.put, List.setIfInBounds_toArray, List.set_cons_zero, List.set_cons_succ]
                refine any_take 27 122 ?vfra27 rfl rfl (by kernel_rfl) (by kernel_rfl) (by kernel_rfl) (fun _ _ _ h => h) (by rfl) ?hyfra27 hH5b ?restfra27
                case hyfra27 => ((intro W hSw); obtain ⟨o0, o1, o2, o3⟩ := Lies.cells4 hSw; go_simp; (try with_reducible rfl))
                try simp only [Act.put, List.setIfInBounds_toArray, List.set_cons_zero, List.set_cons_succ]
                refine any_take 28 123 ?vfra28 rfl rfl (by kernel_rfl) (by kernel_rfl) (by kernel_rfl) (fun _ _ _ h => h) (by rfl) ?hyfra28 hH5b ?restfra28
                case hyfra28 => ((intro W hSw); obtain ⟨o0, o1, o2, o3⟩ := Lies.cells4 hSw; go_simp; (try with_reducible rfl))
                try simp only [Act.put, List.setIfInBounds_toArray, List.set_cons_zero, List.set_cons_succ]
                refine any_take 29 124 ?vfra29 rfl rfl (by kernel_rfl) (by kernel_rfl) (by kernel_rfl) (fun _ _ _ h => h) (by rfl) ?hyfra29 hH5b ?restfra29
                case hyfra29 => ((intro W hSw); obtain ⟨o0, o1, o2, o3⟩ := Lies.cells4 hSw; go_simp; (try with_reducible rfl))
                try simp only [Act.put, List.setIfInBounds_toArray, List.set_cons_zero, List.set_cons_succ]
                refine any_take 31 126 ?vfra31 rfl rfl (by kernel_rfl) (by kernel_rfl) (by kernel_rfl) (fun _ _ _ h => h) (by rfl) ?hyfra31 hH5b ?restfra31
                case hyfra31 => ((intro W hSw); obtain ⟨o0, o1, o2, o3⟩ := Lies.cells4 hSw; go_simp; (try with_reducible rfl))
                try simp only [Act.put, List.setIfInBounds_toArray, List.set_cons_zero, List.set_cons_succ]
                refine any_take 32 127 ?vfra32 rfl rfl (by kernel_rfl) (by kernel_rfl) (by kernel_rfl) (fun _ _ _ h => h) (by rfl) ?hyfra32 hH5b ?restfra32
                case hyfra32 => ((intro W hSw); obtain ⟨o0, o1, o2, o3⟩ := Lies.cells4 hSw; go_simp; (try with_reducible rfl))
                try simp only [Act.put, List.setIfInBounds_toArray, List.set_cons_zero, List.set_cons_succ]
                refine any_take 33 128 ?vfra33 rfl rfl (by kernel_rfl) (by kernel_rfl) (by kernel_rfl) (fun _ _ _ h => h) (by rfl) ?hyfra33 hH5b ?restfra33
                case hyfra33 => ((intro W hSw); obtain ⟨o0, o1, o2, o3⟩ := Lies.cells4 hSw; go_simp; (try with_reducible rfl))
                try simp only [Act.put, List.setIfInBounds_toArray, List.set_cons_zero, List.set_cons_succ]
                refine wpAnyH_ready (rs := [30]) (by kernel_rfl) (by simp) ?_
                refine AllReadyH.cons rfl (fun K hK => ?_) AllReadyH.nil
                go_simp
                with_reducible refine (sw_gone D11.out.s xn HXO.out.2.2.1).mono ?_
                rintro e w12 ⟨he, rfl⟩; (try rw [HAX.out] at he); (try rw [HAN.out] at he); subst he
                refine hK.out _ _ LB11.out (fun hH6 => ?_)
                clear hK K
                try simp only [Act.put, List.setIfInBounds_toArray, List.set_cons_zero, List.set_cons_succ]
                refine wpAnyH_ready (rs := [34]) (by kernel_rfl) (by simp) ?_
                refine AllReadyH.cons rfl (fun K hK => ?_) AllReadyH.nil
                go_simp
                with_reducible refine (rgone_any B g vF vL4 vA4 rr xn w11 D11.out.ra (D11.out.rel.sumA (by have := HA6.out; omega))).mono ?_
                rintro e w12 ⟨he, rfl⟩; (try rw [HAX.out] at he); (try rw [HAN.out] at he); subst he
                refine hK.out _ _ LB11.out (fun hH6b => ?_)
                clear hK K
                try simp only [Act.put, List.setIfInBounds_toArray, List.set_cons_zero, List.set_cons_succ]
                refine any_take 35 130 ?vfrap35 rfl rfl (by kernel_rfl) (by kernel_rfl) (by kernel_rfl) (fun _ _ _ h => h) (by rfl) ?hyfrap35 hH6b ?restfrap35
                case hyfrap35 => ((intro W hSw); obtain ⟨o0, o1, o2, o3⟩ := Lies.cells4 hSw; go_simp; (try with_reducible rfl))
                try simp only [Act.put, List.setIfInBounds_toArray, List.set_cons_zero, List.set_cons_succ]
                refine any_take 36 131 ?vfrap36 rfl rfl (by kernel_rfl) (by kernel_rfl) (by kernel_rfl) (fun _ _ _ h => h) (by rfl) ?hyfrap36 hH6b ?restfrap36
                case hyfrap36 => ((intro W hSw); obtain ⟨o0, o1, o2, o3⟩ := Lies.cells4 hSw; go_simp; (try with_reducible rfl))
                try simp only [Act.put, List.setIfInBounds_toArray, List.set_cons_zero, List.set_cons_succ]
                refine wpAnyH_done (by kernel_rfl) ?_ _
                refine NoPanic.normal ?_
                go_wp2_with fail
                go_meet
                exact ⟨rfl, B11.out, G11.out.roww, R11.out.roww⟩
              case rest =>
                obtain ⟨rfl, hbc, hg1, hr1⟩ := hcut
                have BC := Lib.hid hbc
                have GC := Lib.hid hg1
                have RC := Lib.hid hr1
                obtain ⟨A15, c15, rfl, -, -⟩ := G6.out.gin
                obtain ⟨A16, c16, rfl, -, -⟩ := R6.out.hin
                have hkz : ((goodsL qq.K).length : Int) ≤ 50 := by rw [goods_len]; have := DY.out.s.inv.kz; omega
                have hhz : (qq.H.length : Int) ≤ 121 := by have := HH6.out; omega
                clear hbc hg1 hr1 D6 LB6 G6 R6 B6
                obtain ⟨n5, hn5⟩ : ∃ z, (goodsL qq.K).length = z := ⟨_, rfl⟩
                obtain ⟨n6, hn6⟩ : ∃ z, qq.H.length = z := ⟨_, rfl⟩
                rw [hn5] at GC hkz ⊢
                rw [hn6] at RC hhz ⊢
                clear hn5 hn6
                go_wp2_with fail
                go_loopw [17] (fun v17 wr => DoK Y (.slice A15 n5 c15) (.slice A16 n6 c16) n5 n6 v17 wr) (fun i _ => n5 - (intOf i).toNat)
                case atStart => exact ⟨0, by omega, rfl, BC.out, GC.out, RC.out⟩
                case round =>
                  clear GC RC BC
                  obtain ⟨k, hk, rfl, hb, hg, hr⟩ := hrel
                  have HB7 := Lib.hid hb
                  have HG7 := Lib.hid hg
                  have HR7 := Lib.hid hr
                  clear hb hg hr
                  by_cases hk1 : k < n5
                  · have hk2 : (k : Int) < (n5 : Int) := by omega
                    rcases HG7.out with h | ⟨g5, o5, cc, cs5, e5, hg5, hL5, hs5⟩
                    · omega
                    injection e5 with q1 q2 q3
                    subst q1 q3
                    have HL5 := Lib.hid hL5
                    clear hL5 q2
                    go_wp2_with (first | ((with_reducible refine wpl_putC none _ _ _ 3 (.tmp 141) (.const (.int .i64 (-7))) g5 (o5 + k * 2 + 1) 46 cs5 (.int .i64 (-7)) ?px ?py HL5.out ?pi ?ps rfl ?_); (case px => rfl); (case py => rfl); (case pi => omega); (case ps => kernel_rfl); (intro w8 hp8; (have HP8 := Lib.hid hp8); clear hp8)))
                    go_roundw
                    case rel => exact ⟨k + 1, by omega, by go_num, HB7.out.grown HP8.out.grown HB7.out.size (fun z hz => by injection hz with hz; omega), .inr ⟨g5, o5, _, _, rfl, hg5, HP8.out.lies, by simp; omega⟩, HR7.out.put HL5.out HP8.out (by decide)⟩
                    case measure => simp [intOf]; omega
                  · have hk2 : decide ((k : Int) < (n5 : Int)) = false := by simp; omega
                    clear HG7
                    go_wp2_with fail
                    go_loopw [18] (fun v18 wr => DoM Y (.slice A16 n6 c16) n6 v18 wr) (fun i _ => n6 - (intOf i).toNat)
                    case atStart => exact ⟨0, by omega, rfl, HB7.out, HR7.out⟩
                    case round =>
                      clear HB7 HR7 hk hk1 hk2
                      obtain ⟨k, hk, rfl, hb, hr⟩ := hrel
                      have HB8 := Lib.hid hb
                      have HR8 := Lib.hid hr
                      clear hb hr
                      by_cases hk1 : k < n6
                      · have hk2 : (k : Int) < (n6 : Int) := by omega
                        rcases HR8.out with h | ⟨g5, o5, cc, cs5, e5, hg5, hL5, hs5⟩
                        · omega
                        injection e5 with q1 q2 q3
                        subst q1 q3
                        have HL5 := Lib.hid hL5
                        clear hL5 q2
                        go_wp2_with (first | ((with_reducible refine wpl_putC none _ _ _ 3 (.tmp 151) (.const (.int .i64 (-7))) g5 (o5 + k * 3 + 2) 48 cs5 (.int .i64 (-7)) ?px ?py HL5.out ?pi ?ps rfl ?_); (case px => rfl); (case py => rfl); (case pi => omega); (case ps => kernel_rfl); (intro w8 hp8; (have HP8 := Lib.hid hp8); clear hp8)))
                        go_roundw
                        case rel => exact ⟨k + 1, by omega, by go_num, HB8.out.grown HP8.out.grown HB8.out.size (fun z hz => by injection hz with hz; omega), .inr ⟨g5, o5, _, _, rfl, hg5, HP8.out.lies, by simp; omega⟩⟩
                        case measure => simp [intOf]; omega
                      · have hk2 : decide ((k : Int) < (n6 : Int)) = false := by simp; omega
                        go_wp2_with fail
                        go_roundw
                        case rel => exact ⟨j + 1, qq, vF, vL4, vA4, rr, by omega, by omega, by go_num, DY.out.below HB8.out, HHJ.out.1, HHJ.out.2⟩
                        case measure => simp [intOf]; omega
            by_cases t2 : xt = 2
            · subst t2
              have LB0 := Lib.hid (Lies.made wr 35 #[.int .i64 2, .int .u32 (xo : Int), encStr xn, .int .i64 xk])
              have DB := Lib.hid (D_2.out.below (below1 wr (.cells #[.int .i64 2, .int .u32 (xo : Int), encStr xn, .int .i64 xk] 35)))
              obtain ⟨wb, hwb⟩ : ∃ wb, wb = wr.alloc (.cells #[.int .i64 2, .int .u32 (xo : Int), encStr xn, .int .i64 xk] 35) := ⟨_, rfl⟩
              go_wp2_with fail
              rw [← hwb]
              rw [← hwb] at LB0 DB
              have HBX : Hid (Below wr.heap.size wr wb) := Lib.hid (by rw [hwb]; exact below1 _ _)
              clear hwb x0 x1 x2 x3
              obtain ⟨bx, hbx⟩ : ∃ bx, bx = wr.heap.size := ⟨_, rfl⟩
              rw [← hbx]
              rw [← hbx] at LB0
              have HBXE := Lib.hid hbx
              clear hbx
              have HNB : Hid (bx ≠ b.k ∧ bx ≠ b.h ∧ bx ≠ g ∧ vL.ownBlock ≠ some bx ∧ vA.ownBlock ≠ some bx) := Lib.hid (by
                have h0 := HBXE.out
                have h1 := D_2.out.lo
                have h2 := D_2.out.hB.2
                have h3 := D_2.out.ra.c.lt
                refine ⟨by omega, by omega, by omega, fun e => ?_, fun e => ?_⟩
                · have := (D_2.out.ra.l.block _ e).2; omega
                · have := (D_2.out.ra.a.block _ e).2; omega)
              with_reducible refine (sw_act DB.out.s 2 xo xn xk HXO.out.2.1 HXO.out.2.2.1 HXO.out.2.2.2 (by have := HH.out; omega)).mono ?_
              rintro e w3 ⟨rfl, hs, hf⟩
              have S3 := Lib.hid hs
              have F3 := Lib.hid hf
              have R3 := Lib.hid (DB.out.ra.frm hf DB.out.lo.2.1 DB.out.lo.2.2)
              have LB3 := Lib.hid (hf.lies LB0.out HNB.out.1 HNB.out.2.1)
              clear hs hf
              obtain ⟨p0, p1, p2, p3⟩ := LB3.out.cells4
              skip
              go_wp2_with fail
              with_reducible refine (rleave_any B g vF vL vA r xo false w3 R3.out (DB.out.rel.sumL DB.out.s.inv (by rw [DB.out.rel.len]; have := HH.out; omega)) (DB.out.rel.sumA (by have := HAA.out; omega)) (Nat.le_trans DB.out.hB.2 F3.out.size)).mono ?_
              rintro e w4 ⟨rfl, vL4, vA4, hr, hf⟩
              have ER := Lib.hid (show rleaveS r xo false = rstep r ⟨2, xo, xn, xk⟩ ∧ rleaveV r xo = rstepV r ⟨2, xo, xn, xk⟩ from rs2 rfl)
              rw [ER.out.2, DB.out.rel.stepV DB.out.s.inv]
              have D4 := Lib.hid (DB.out.act S3.out F3.out hr hf ER.out.1)
              have LB4 := Lib.hid (hf.lies LB3.out HNB.out.2.2.1 HNB.out.2.2.2.1 HNB.out.2.2.2.2)
              have HH4 : Hid ((actS q ⟨2, xo, xn, xk⟩).H.length ≤ 121) := Lib.hid (by have := (actS_len q ⟨2, xo, xn, xk⟩).1; have := HH.out; omega)
              have HA4 : Hid ((rstep r ⟨2, xo, xn, xk⟩).A.length ≤ 121) := Lib.hid (by have := (rstep_len r ⟨2, xo, xn, xk⟩).2; have := HAA.out; omega)
              have HHJ : Hid ((actS q ⟨2, xo, xn, xk⟩).H.length ≤ j + 1 ∧ (rstep r ⟨2, xo, xn, xk⟩).A.length ≤ j + 1) := Lib.hid ⟨by have := (actS_len q ⟨2, xo, xn, xk⟩).1; have := HH.out; omega, by have := (rstep_len r ⟨2, xo, xn, xk⟩).2; have := HAA.out; omega⟩
              clear hr hf p0 p1 p2 p3 ER
              obtain ⟨qq, hqq⟩ : ∃ z, actS q ⟨2, xo, xn, xk⟩ = z := ⟨_, rfl⟩
              obtain ⟨rr, hrr⟩ : ∃ z, rstep r ⟨2, xo, xn, xk⟩ = z := ⟨_, rfl⟩
              obtain ⟨vv, hvv⟩ : ∃ z, verd (actV q ⟨2, xo, xn, xk⟩) = z := ⟨_, rfl⟩
              rw [hqq, hrr] at D4
              rw [hqq] at HH4 HHJ
              rw [hrr] at HA4 HHJ
              rw [hvv]
              clear hqq hrr hvv S3 F3 R3 LB3 DB
              go_wp2_with fail
              with_reducible refine (goods_any b qq w4 D4.out.s.ok D4.out.s.inv.ks (by have := D4.out.s.inv.kz; omega)).mono ?_
              rintro e w5 ⟨v15, rfl, hg5, hb⟩
              have D5 := Lib.hid (D4.out.below hb)
              have LB5 := Lib.hid (LB4.out.below hb LB4.out.lt)
              have G5 := Lib.hid hg5
              have B5 := Lib.hid hb
              clear hg5 hb
              go_wp2_with fail
              with_reducible refine (holds_any b qq w5 D5.out.s.ok D5.out.s.inv.hs (by have := HH4.out; omega)).mono ?_
              rintro e w6 ⟨v16, rfl, hr6, hb⟩
              obtain ⟨Y, hY⟩ : ∃ Y, Y = w4 := ⟨_, rfl⟩
              have D6 := Lib.hid (D5.out.below hb)
              have LB6 := Lib.hid (LB5.out.below hb LB5.out.lt)
              have G6 := Lib.hid (show OwnG w6 Y.heap.size v15 (goodsL qq.K) from by rw [hY]; exact G5.out.below hb)
              have R6 := Lib.hid (show OwnR w6 Y.heap.size v16 qq.H from by rw [hY]; exact hr6.low B5.out.size)
              have B6 := Lib.hid (show Below Y.heap.size Y w6 from by rw [hY]; exact B5.out.trans (hb.mono B5.out.size))
              have DY := Lib.hid (show DW w Y b qq B g vF vL4 vA4 rr from by rw [hY]; exact D4.out)
              have HH6 := HH4
              have HA6 := HA4
              clear hr6 hb hY D4 D5 G5 B5 LB4 LB5
              go_upto_region 24 with fail
              go_cut [131] from 51 to 151 (fun s131 W => s131 = .bool false ∧ Below Y.heap.size Y W ∧ RowW W Y.heap.size 46 2 v15 (goodsL qq.K).length ∧ RowW W Y.heap.size 48 3 v16 qq.H.length)
              case first =>
                refine wp_region_noPanic ?_
                refine wp_region_held_drew (S := fun W => Lies W bx 35 #[.int .i64 2, .int .u32 (xo : Int), encStr xn, .int .i64 xk]) (by kernel_rfl) LB6.out (fun hH0 => ?_)
                generalize hwd : w6.drew = wd at *
                have D7 := Lib.hid (show DW w wd b qq B g vF vL4 vA4 rr from by rw [← hwd]; exact D6.out.below ((Below.refl _ _).drew))
                have LB7 := Lib.hid (show Lies wd bx 35 #[.int .i64 2, .int .u32 (xo : Int), encStr xn, .int .i64 xk] from by rw [← hwd]; exact LB6.out)
                have G7 := Lib.hid (show OwnG wd Y.heap.size v15 (goodsL qq.K) from by rw [← hwd]; exact G6.out)
                have R7 := Lib.hid (show OwnR wd Y.heap.size v16 qq.H from by rw [← hwd]; exact R6.out)
                have B7 := Lib.hid (show Below Y.heap.size Y wd from by rw [← hwd]; exact B6.out.drew)
                clear hwd
                refine any_take 0 95 ?vgr0 rfl rfl (by kernel_rfl) (by kernel_rfl) (by kernel_rfl) (fun _ _ _ h => h) (by rfl) ?hygr0 hH0 ?restgr0
                case hygr0 => ((intro W hSw); obtain ⟨o0, o1, o2, o3⟩ := Lies.cells4 hSw; go_simp; (try with_reducible rfl))
                try simp only [Act.put, List.setIfInBounds_toArray, List.set_cons_zero, List.set_cons_succ]
                refine any_take 1 96 ?vgr1 rfl rfl (by kernel_rfl) (by kernel_rfl) (by kernel_rfl) (fun _ _ _ h => h) (by rfl) ?hygr1 hH0 ?restgr1
                case hygr1 => ((intro W hSw); obtain ⟨o0, o1, o2, o3⟩ := Lies.cells4 hSw; go_simp; (try with_reducible rfl))
                try simp only [Act.put, List.setIfInBounds_toArray, List.set_cons_zero, List.set_cons_succ]
                refine any_take 2 97 ?vgr2 rfl rfl (by kernel_rfl) (by kernel_rfl) (by kernel_rfl) (fun _ _ _ h => h) (by rfl) ?hygr2 hH0 ?restgr2
                case hygr2 => ((intro W hSw); obtain ⟨o0, o1, o2, o3⟩ := Lies.cells4 hSw; go_simp; (try with_reducible rfl))
                try simp only [Act.put, List.setIfInBounds_toArray, List.set_cons_zero, List.set_cons_succ]
                refine any_take 3 98 ?vgr3 rfl rfl (by kernel_rfl) (by kernel_rfl) (by kernel_rfl) (fun _ _ _ h => h) (by rfl) ?hygr3 hH0 ?restgr3
                case hygr3 => ((intro W hSw); obtain ⟨o0, o1, o2, o3⟩ := Lies.cells4 hSw; go_simp; (try with_reducible rfl))
                try simp only [Act.put, List.setIfInBounds_toArray, List.set_cons_zero, List.set_cons_succ]
                refine any_take 4 99 ?vgr4 rfl rfl (by kernel_rfl) (by kernel_rfl) (by kernel_rfl) (fun _ _ _ h => h) (by rfl) ?hygr4 hH0 ?restgr4
                case hygr4 => ((intro W hSw); obtain ⟨o0, o1, o2, o3⟩ := Lies.cells4 hSw; go_simp; (try with_reducible rfl))
                try simp only [Act.put, List.setIfInBounds_toArray, List.set_cons_zero, List.set_cons_succ]
                refine any_take 5 100 ?vgr5 rfl rfl (by kernel_rfl) (by kernel_rfl) (by kernel_rfl) (fun _ _ _ h => h) (by rfl) ?hygr5 hH0 ?restgr5
                case hygr5 => ((intro W hSw); obtain ⟨o0, o1, o2, o3⟩ := Lies.cells4 hSw; go_simp; (try with_reducible rfl))
                try simp only [Act.put, List.setIfInBounds_toArray, List.set_cons_zero, List.set_cons_succ]
                refine wpAnyH_ready (rs := [6]) (by kernel_rfl) (by simp) ?_
                refine AllReadyH.cons rfl (fun K hK => ?_) AllReadyH.nil
                go_simp
                go_at_call 19
                with_reducible refine (rgoods_any B g vF vL4 vA4 rr wd D7.out.ra (D7.out.rel.fok D7.out.s.inv) (D7.out.rel.sumL D7.out.s.inv (by rw [D7.out.rel.len]; have := HH6.out; omega)) (D7.out.rel.sumA (by have := HA6.out; omega))).mono ?_
                rintro e w8 ⟨vx, rfl, ho, hb⟩
                rw [D7.out.rel.goods D7.out.s.inv] at ho
                have GX := Lib.hid ho
                have D8 := Lib.hid (D7.out.below hb)
                have LB8 := Lib.hid (LB7.out.below hb LB7.out.lt)
                have G8 := Lib.hid (G7.out.below hb)
                have R8 := Lib.hid (R7.out.below hb)
                have B8 := Lib.hid (B7.out.trans (hb.mono B7.out.size))
                clear ho hb
                refine hK.out _ _ LB8.out (fun hH1 => ?_)
                clear hK K
                try simp only [Act.put, List.setIfInBounds_toArray, List.set_cons_zero, List.set_cons_succ]
                refine wpAnyH_ready (rs := [7]) (by kernel_rfl) (by simp) ?_
                refine AllReadyH.cons rfl (fun K hK => ?_) AllReadyH.nil
                go_simp
                go_at_call 18
                with_reducible refine (sameG_own Y.heap.size wd.heap.size v15 vx (goodsL qq.K) w8 G8.out GX.out (by rw [goods_len]; have := D8.out.s.inv.kz; omega)).mono ?_
                rintro e w9 ⟨rfl, hb⟩
                have D9 := Lib.hid (D8.out.below hb)
                have LB9 := Lib.hid (LB8.out.below hb LB8.out.lt)
                have G9 := Lib.hid (G8.out.below hb)
                have R9 := Lib.hid (R8.out.below hb)
                have B9 := Lib.hid (B8.out.trans (hb.mono B8.out.size))
                clear hb
                refine hK.out _ _ LB9.out (fun hH2 => ?_)
                clear hK K
                try simp only [Act.put, List.setIfInBounds_toArray, List.set_cons_zero, List.set_cons_succ]
                refine any_take 8 103 ?vgr8 rfl rfl (by kernel_rfl) (by kernel_rfl) (by kernel_rfl) (fun _ _ _ h => h) (by rfl) ?hygr8 hH2 ?restgr8
                case hygr8 => ((intro W hSw); obtain ⟨o0, o1, o2, o3⟩ := Lies.cells4 hSw; go_simp; (try with_reducible rfl))
                try simp only [Act.put, List.setIfInBounds_toArray, List.set_cons_zero, List.set_cons_succ]
                refine any_take 9 104 ?vgr9 rfl rfl (by kernel_rfl) (by kernel_rfl) (by kernel_rfl) (fun _ _ _ h => h) (by rfl) ?hygr9 hH2 ?restgr9
                case hygr9 => ((intro W hSw); obtain ⟨o0, o1, o2, o3⟩ := Lies.cells4 hSw; go_simp; (try with_reducible rfl))
                try simp only [Act.put, List.setIfInBounds_toArray, List.set_cons_zero, List.set_cons_succ]
                refine any_take 10 105 ?vgr10 rfl rfl (by kernel_rfl) (by kernel_rfl) (by kernel_rfl) (fun _ _ _ h => h) (by rfl) ?hygr10 hH2 ?restgr10
                case hygr10 => ((intro W hSw); obtain ⟨o0, o1, o2, o3⟩ := Lies.cells4 hSw; go_simp; (try with_reducible rfl))
                try simp only [Act.put, List.setIfInBounds_toArray, List.set_cons_zero, List.set_cons_succ]
                refine any_take 11 106 ?vgr11 rfl rfl (by kernel_rfl) (by kernel_rfl) (by kernel_rfl) (fun _ _ _ h => h) (by rfl) ?hygr11 hH2 ?restgr11
                case hygr11 => ((intro W hSw); obtain ⟨o0, o1, o2, o3⟩ := Lies.cells4 hSw; go_simp; (try with_reducible rfl))
                try simp only [Act.put, List.setIfInBounds_toArray, List.set_cons_zero, List.set_cons_succ]
                refine any_take 12 107 ?vgr12 rfl rfl (by kernel_rfl) (by kernel_rfl) (by kernel_rfl) (fun _ _ _ h => h) (by rfl) ?hygr12 hH2 ?restgr12
                case hygr12 => ((intro W hSw); obtain ⟨o0, o1, o2, o3⟩ := Lies.cells4 hSw; go_simp; (try with_reducible rfl))
                try simp only [Act.put, List.setIfInBounds_toArray, List.set_cons_zero, List.set_cons_succ]
                refine wpAnyH_ready (rs := [13]) (by kernel_rfl) (by simp) ?_
                refine AllReadyH.cons rfl (fun K hK => ?_) AllReadyH.nil
                go_simp
                go_at_call 21
                with_reducible refine (rholds_any B g vF vL4 vA4 rr qq.H w9 D9.out.ra D9.out.s.inv.hs D9.out.rel.p (fun z hz => (D9.out.s.inv.hh z hz).2.1) (by have := HH6.out; omega)).mono ?_
                rintro e w10 ⟨vy, rfl, ho, hb⟩
                have RX := Lib.hid ho
                have D10 := Lib.hid (D9.out.below hb)
                have LB10 := Lib.hid (LB9.out.below hb LB9.out.lt)
                have G10 := Lib.hid (G9.out.below hb)
                have R10 := Lib.hid (R9.out.below hb)
                have B10 := Lib.hid (B9.out.trans (hb.mono B9.out.size))
                clear ho hb
                refine hK.out _ _ LB10.out (fun hH3 => ?_)
                clear hK K
                try simp only [Act.put, List.setIfInBounds_toArray, List.set_cons_zero, List.set_cons_succ]
                refine wpAnyH_ready (rs := [14]) (by kernel_rfl) (by simp) ?_
                refine AllReadyH.cons rfl (fun K hK => ?_) AllReadyH.nil
                go_simp
                go_at_call 20
                with_reducible refine (sameH_own Y.heap.size w9.heap.size v16 vy qq.H w10 R10.out RX.out (by have := HH6.out; omega)).mono ?_
                rintro e w11 ⟨rfl, hb⟩
                have D11 := Lib.hid (D10.out.below hb)
                have LB11 := Lib.hid (LB10.out.below hb LB10.out.lt)
                have G11 := Lib.hid (G10.out.below hb)
                have R11 := Lib.hid (R10.out.below hb)
                have B11 := Lib.hid (B10.out.trans (hb.mono B10.out.size))
                clear hb
                refine hK.out _ _ LB11.out (fun hH4 => ?_)
                clear hK K
                try simp only [Act.put, List.setIfInBounds_toArray, List.set_cons_zero, List.set_cons_succ]
                refine any_take 15 110 ?vgr15 rfl rfl (by kernel_rfl) (by kernel_rfl) (by kernel_rfl) (fun _ _ _ h => h) (by rfl) ?hygr15 hH4 ?restgr15
                case hygr15 => ((intro W hSw); obtain ⟨o0, o1, o2, o3⟩ := Lies.cells4 hSw; go_simp; (try with_reducible rfl))
                try simp only [Act.put, List.setIfInBounds_toArray, List.set_cons_zero, List.set_cons_succ]
                refine any_take 16 111 ?vgr16 rfl rfl (by kernel_rfl) (by kernel_rfl) (by kernel_rfl) (fun _ _ _ h => h) (by rfl) ?hygr16 hH4 ?restgr16
                case hygr16 => ((intro W hSw); obtain ⟨o0, o1, o2, o3⟩ := Lies.cells4 hSw; go_simp; (try with_reducible rfl))
                try simp only [Act.put, List.setIfInBounds_toArray, List.set_cons_zero, List.set_cons_succ]
                refine any_take 17 112 ?vgr17 rfl rfl (by kernel_rfl) (by kernel_rfl) (by kernel_rfl) (fun _ _ _ h => h) (by rfl) ?hygr17 hH4 ?restgr17
                case hygr17 => ((intro W hSw); obtain ⟨o0, o1, o2, o3⟩ := Lies.cells4 hSw; go_simp; (try with_reducible rfl))
                try simp only [Act.put, List.setIfInBounds_toArray, List.set_cons_zero, List.set_cons_succ]
                refine any_take 18 113 ?vgr18 rfl rfl (by kernel_rfl) (by kernel_rfl) (by kernel_rfl) (fun _ _ _ h => h) (by rfl) ?hygr18 hH4 ?restgr18
                case hygr18 => ((intro W hSw); obtain ⟨o0, o1, o2, o3⟩ := Lies.cells4 hSw; go_simp; (try with_reducible rfl))
                try simp only [Act.put, List.setIfInBounds_toArray, List.set_cons_zero, List.set_cons_succ]
                refine any_take 19 114 ?vgr19 rfl rfl (by kernel_rfl) (by kernel_rfl) (by kernel_rfl) (fun _ _ _ h => h) (by rfl) ?hygr19 hH4 ?restgr19
                case hygr19 => ((intro W hSw); obtain ⟨o0, o1, o2, o3⟩ := Lies.cells4 hSw; go_simp; (try with_reducible rfl))
                try simp only [Act.put, List.setIfInBounds_toArray, List.set_cons_zero, List.set_cons_succ]
                refine any_take 21 116 ?vgr21 rfl rfl (by kernel_rfl) (by kernel_rfl) (by kernel_rfl) (fun _ _ _ h => h) (by rfl) ?hygr21 hH4 ?restgr21
                case hygr21 => ((intro W hSw); obtain ⟨o0, o1, o2, o3⟩ := Lies.cells4 hSw; go_simp; (try with_reducible rfl))
                try simp only [Act.put, List.setIfInBounds_toArray, List.set_cons_zero, List.set_cons_succ]
                refine any_take 22 117 ?vgr22 rfl rfl (by kernel_rfl) (by kernel_rfl) (by kernel_rfl) (fun _ _ _ h => h) (by rfl) ?hygr22 hH4 ?restgr22
                case hygr22 => ((intro W hSw); obtain ⟨o0, o1, o2, o3⟩ := Lies.cells4 hSw; go_simp; (try with_reducible rfl))
                try simp only [Act.put, List.setIfInBounds_toArray, List.set_cons_zero, List.set_cons_succ]
                have HAX := Lib.hid (D11.out.rel.a x)
                have HAN := Lib.hid (D11.out.rel.a xn)
                refine wpAnyH_ready (rs := [20]) (by kernel_rfl) (by simp) ?_
                refine AllReadyH.cons rfl (fun K hK => ?_) AllReadyH.nil
                go_simp
                with_reducible refine (sw_gone D11.out.s x hx).mono ?_
                rintro e w12 ⟨he, rfl⟩; (try rw [HAX.out] at he); (try rw [HAN.out] at he); subst he
                refine hK.out _ _ LB11.out (fun hH5 => ?_)
                clear hK K
                try simp only [Act.put, List.setIfInBounds_toArray, List.set_cons_zero, List.set_cons_succ]
                refine wpAnyH_ready (rs := [23]) (by kernel_rfl) (by simp) ?_
                refine AllReadyH.cons rfl (fun K hK => ?_) AllReadyH.nil
                go_simp
                with_reducible refine (rgone_any B g vF vL4 vA4 rr x w11 D11.out.ra (D11.out.rel.sumA (by have := HA6.out; omega))).mono ?_
                rintro e w12 ⟨he, rfl⟩; (try rw [HAX.out] at he); (try rw [HAN.out] at he); subst he
                refine hK.out _ _ LB11.out (fun hH5b => ?_)
                clear hK K
                try simp only [Act.put, List.setIfInBounds_toArray, List.set_cons_zero, List.set_cons_succ]
                refine any_take 24 119 ?vgra24 rfl rfl (by kernel_rfl) (by kernel_rfl) (by kernel_rfl) (fun _ _ _ h => h) (by rfl) ?hygra24 hH5b ?restgra24
                case hygra24 => ((intro W hSw); obtain ⟨o0, o1, o2, o3⟩ := Lies.cells4 hSw; go_simp; (try with_reducible rfl))
                try simp only [Act.put, List.setIfInBounds_toArray, List.set_cons_zero, List.set_cons_succ]
                refine any_take 25 120 ?vgra25 rfl rfl (by kernel_rfl) (by kernel_rfl) (by kernel_rfl) (fun _ _ _ h => h) (by rfl) ?hygra25 hH5b ?restgra25
                case hygra25 => ((intro W hSw); obtain ⟨o0, o1, o2, o3⟩ := Lies.cells4 hSw; go_simp; (try with_reducible rfl))
                try simp only [Act.put, List.setIfInBounds_toArray, List.set_cons_zero, List.set_cons_succ]
                refine any_take 26 121 ?vgra26 rfl rfl (by kernel_rfl) (by kernel_rfl) (by kernel_rfl) (fun _ _ _ h => h) (by rfl) ?hygra26 hH5b ?restgra26
                case hygra26 => ((intro W hSw); obtain ⟨o0, o1, o2, o3⟩ := Lies.cells4 hSw; go_simp; (try with_reducible rfl))
                try simp only [Act.put, List.setIfInBounds_toArray, List.set_cons_zero, List.set_cons_succ]
                refine any_take 27 122 ?vgra27 rfl rfl (by kernel_rfl) (by kernel_rfl) (by kernel_rfl) (fun _ _ _ h => h) (by rfl) ?hygra27 hH5b ?restgra27
                case hygra27 => ((intro W hSw); obtain ⟨o0, o1, o2, o3⟩ := Lies.cells4 hSw; go_simp; (try with_reducible rfl))
                try simp only [Act.put, List.setIfInBounds_toArray, List.set_cons_zero, List.set_cons_succ]
                refine any_take 28 123 ?vgra28 rfl rfl (by kernel_rfl) (by kernel_rfl) (by kernel_rfl) (fun _ _ _ h => h) (by rfl) ?hygra28 hH5b ?restgra28
                case hygra28 => ((intro W hSw); obtain ⟨o0, o1, o2, o3⟩ := Lies.cells4 hSw; go_simp; (try with_reducible rfl))
                try simp only [Act.put, List.setIfInBounds_toArray, List.set_cons_zero, List.set_cons_succ]
                refine any_take 29 124 ?vgra29 rfl rfl (by kernel_rfl) (by kernel_rfl) (by kernel_rfl) (fun _ _ _ h => h) (by rfl) ?hygra29 hH5b ?restgra29
                case hygra29 => ((intro W hSw); obtain ⟨o0, o1, o2, o3⟩ := Lies.cells4 hSw; go_simp; (try with_reducible rfl))
                try simp only [Act.put, List.setIfInBounds_toArray, List.set_cons_zero, List.set_cons_succ]
                refine any_take 31 126 ?vgra31 rfl rfl (by kernel_rfl) (by kernel_rfl) (by kernel_rfl) (fun _ _ _ h => h) (by rfl) ?hygra31 hH5b ?restgra31
                case hygra31 => ((intro W hSw); obtain ⟨o0, o1, o2, o3⟩ := Lies.cells4 hSw; go_simp; (try with_reducible rfl))
                try simp only [Act.put, List.setIfInBounds_toArray, List.set_cons_zero, List.set_cons_succ]
                refine any_take 32 127 ?vgra32 rfl rfl (by kernel_rfl) (by kernel_rfl) (by kernel_rfl) (fun _ _ _ h => h) (by rfl) ?hygra32 hH5b ?restgra32
                case hygra32 => ((intro W hSw); obtain ⟨o0, o1, o2, o3⟩ := Lies.cells4 hSw; go_simp; (try with_reducible rfl))
                try simp only [Act.put, List.setIfInBounds_toArray, List.set_cons_zero, List.set_cons_succ]
                refine any_take 33 128 ?vgra33 rfl rfl (by kernel_rfl) (by kernel_rfl) (by kernel_rfl) (fun _ _ _ h => h) (by rfl) ?hygra33 hH5b ?restgra33
                case hygra33 => ((intro W hSw); obtain ⟨o0, o1, o2, o3⟩ := Lies.cells4 hSw; go_simp; (try with_reducible rfl))
                try simp only [Act.put, List.setIfInBounds_toArray, List.set_cons_zero, List.set_cons_succ]
                refine wpAnyH_ready (rs := [30]) (by kernel_rfl) (by simp) ?_
                refine AllReadyH.cons rfl (fun K hK => ?_) AllReadyH.nil
                go_simp
                with_reducible refine (sw_gone D11.out.s xn HXO.out.2.2.1).mono ?_
                rintro e w12 ⟨he, rfl⟩; (try rw [HAX.out] at he); (try rw [HAN.out] at he); subst he
                refine hK.out _ _ LB11.out (fun hH6 => ?_)
                clear hK K
                try simp only [Act.put, List.setIfInBounds_toArray, List.set_cons_zero, List.set_cons_succ]
                refine wpAnyH_ready (rs := [34]) (by kernel_rfl) (by simp) ?_
                refine AllReadyH.cons rfl (fun K hK => ?_) AllReadyH.nil
                go_simp
                with_reducible refine (rgone_any B g vF vL4 vA4 rr xn w11 D11.out.ra (D11.out.rel.sumA (by have := HA6.out; omega))).mono ?_
                rintro e w12 ⟨he, rfl⟩; (try rw [HAX.out] at he); (try rw [HAN.out] at he); subst he
                refine hK.out _ _ LB11.out (fun hH6b => ?_)
                clear hK K
                try simp only [Act.put, List.setIfInBounds_toArray, List.set_cons_zero, List.set_cons_succ]
                refine any_take 35 130 ?vgrap35 rfl rfl (by kernel_rfl) (by kernel_rfl) (by kernel_rfl) (fun _ _ _ h => h) (by rfl) ?hygrap35 hH6b ?restgrap35
                case hygrap35 => ((intro W hSw); obtain ⟨o0, o1, o2, o3⟩ := Lies.cells4 hSw; go_simp; (try with_reducible rfl))
                try simp only [Act.put, List.setIfInBounds_toArray, List.set_cons_zero, List.set_cons_succ]
                refine any_take 36 131 ?vgrap36 rfl rfl (by kernel_rfl) (by kernel_rfl) (by kernel_rfl) (fun _ _ _ h => h) (by rfl) ?hygrap36 hH6b ?restgrap36
                case hygrap36 => ((intro W hSw); obtain ⟨o0, o1, o2, o3⟩ := Lies.cells4 hSw; go_simp; (try with_reducible rfl))
                try simp only [Act.put, List.setIfInBounds_toArray, List.set_cons_zero, List.set_cons_succ]
                refine wpAnyH_done (by kernel_rfl) ?_ _
                refine NoPanic.normal ?_
                go_wp2_with fail
                go_meet
                exact ⟨rfl, B11.out, G11.out.roww, R11.out.roww⟩
              case rest =>
                obtain ⟨rfl, hbc, hg1, hr1⟩ := hcut
                have BC := Lib.hid hbc
                have GC := Lib.hid hg1
                have RC := Lib.hid hr1
                obtain ⟨A15, c15, rfl, -, -⟩ := G6.out.gin
                obtain ⟨A16, c16, rfl, -, -⟩ := R6.out.hin
                have hkz : ((goodsL qq.K).length : Int) ≤ 50 := by rw [goods_len]; have := DY.out.s.inv.kz; omega
                have hhz : (qq.H.length : Int) ≤ 121 := by have := HH6.out; omega
                clear hbc hg1 hr1 D6 LB6 G6 R6 B6
                obtain ⟨n5, hn5⟩ : ∃ z, (goodsL qq.K).length = z := ⟨_, rfl⟩
                obtain ⟨n6, hn6⟩ : ∃ z, qq.H.length = z := ⟨_, rfl⟩
                rw [hn5] at GC hkz ⊢
                rw [hn6] at RC hhz ⊢
                clear hn5 hn6
                go_wp2_with fail
                go_loopw [17] (fun v17 wr => DoK Y (.slice A15 n5 c15) (.slice A16 n6 c16) n5 n6 v17 wr) (fun i _ => n5 - (intOf i).toNat)
                case atStart => exact ⟨0, by omega, rfl, BC.out, GC.out, RC.out⟩
                case round =>
                  clear GC RC BC
                  obtain ⟨k, hk, rfl, hb, hg, hr⟩ := hrel
                  have HB7 := Lib.hid hb
                  have HG7 := Lib.hid hg
                  have HR7 := Lib.hid hr
                  clear hb hg hr
                  by_cases hk1 : k < n5
                  · have hk2 : (k : Int) < (n5 : Int) := by omega
                    rcases HG7.out with h | ⟨g5, o5, cc, cs5, e5, hg5, hL5, hs5⟩
                    · omega
                    injection e5 with q1 q2 q3
                    subst q1 q3
                    have HL5 := Lib.hid hL5
                    clear hL5 q2
                    go_wp2_with (first | ((with_reducible refine wpl_putC none _ _ _ 3 (.tmp 141) (.const (.int .i64 (-7))) g5 (o5 + k * 2 + 1) 46 cs5 (.int .i64 (-7)) ?px ?py HL5.out ?pi ?ps rfl ?_); (case px => rfl); (case py => rfl); (case pi => omega); (case ps => kernel_rfl); (intro w8 hp8; (have HP8 := Lib.hid hp8); clear hp8)))
                    go_roundw
                    case rel => exact ⟨k + 1, by omega, by go_num, HB7.out.grown HP8.out.grown HB7.out.size (fun z hz => by injection hz with hz; omega), .inr ⟨g5, o5, _, _, rfl, hg5, HP8.out.lies, by simp; omega⟩, HR7.out.put HL5.out HP8.out (by decide)⟩
                    case measure => simp [intOf]; omega
                  · have hk2 : decide ((k : Int) < (n5 : Int)) = false := by simp; omega
                    clear HG7
                    go_wp2_with fail
                    go_loopw [18] (fun v18 wr => DoM Y (.slice A16 n6 c16) n6 v18 wr) (fun i _ => n6 - (intOf i).toNat)
                    case atStart => exact ⟨0, by omega, rfl, HB7.out, HR7.out⟩
                    case round =>
                      clear HB7 HR7 hk hk1 hk2
                      obtain ⟨k, hk, rfl, hb, hr⟩ := hrel
                      have HB8 := Lib.hid hb
                      have HR8 := Lib.hid hr
                      clear hb hr
                      by_cases hk1 : k < n6
                      · have hk2 : (k : Int) < (n6 : Int) := by omega
                        rcases HR8.out with h | ⟨g5, o5, cc, cs5, e5, hg5, hL5, hs5⟩
                        · omega
                        injection e5 with q1 q2 q3
                        subst q1 q3
                        have HL5 := Lib.hid hL5
                        clear hL5 q2
                        go_wp2_with (first | ((with_reducible refine wpl_putC none _ _ _ 3 (.tmp 151) (.const (.int .i64 (-7))) g5 (o5 + k * 3 + 2) 48 cs5 (.int .i64 (-7)) ?px ?py HL5.out ?pi ?ps rfl ?_); (case px => rfl); (case py => rfl); (case pi => omega); (case ps => kernel_rfl); (intro w8 hp8; (have HP8 := Lib.hid hp8); clear hp8)))
                        go_roundw
                        case rel => exact ⟨k + 1, by omega, by go_num, HB8.out.grown HP8.out.grown HB8.out.size (fun z hz => by injection hz with hz; omega), .inr ⟨g5, o5, _, _, rfl, hg5, HP8.out.lies, by simp; omega⟩⟩
                        case measure => simp [intOf]; omega
                      · have hk2 : decide ((k : Int) < (n6 : Int)) = false := by simp; omega
                        go_wp2_with fail
                        go_roundw
                        case rel => exact ⟨j + 1, qq, vF, vL4, vA4, rr, by omega, by omega, by go_num, DY.out.below HB8.out, HHJ.out.1, HHJ.out.2⟩
                        case measure => simp [intOf]; omega
            have t0' : (xt == 0) = false := by simpa using t0
            have t1' : (xt == 1) = false := by simpa using t1
            have t2' : (xt == 2) = false := by simpa using t2
            have LB0 := Lib.hid (Lies.made wr 35 #[.int .i64 xt, .int .u32 (xo : Int), encStr xn, .int .i64 xk])
            have DB := Lib.hid (D_2.out.below (below1 wr (.cells #[.int .i64 xt, .int .u32 (xo : Int), encStr xn, .int .i64 xk] 35)))
            obtain ⟨wb, hwb⟩ : ∃ wb, wb = wr.alloc (.cells #[.int .i64 xt, .int .u32 (xo : Int), encStr xn, .int .i64 xk] 35) := ⟨_, rfl⟩
            go_wp2_with fail
            rw [← hwb]
            rw [← hwb] at LB0 DB
            have HBX : Hid (Below wr.heap.size wr wb) := Lib.hid (by rw [hwb]; exact below1 _ _)
            clear hwb x0 x1 x2 x3
            obtain ⟨bx, hbx⟩ : ∃ bx, bx = wr.heap.size := ⟨_, rfl⟩
            rw [← hbx]
            rw [← hbx] at LB0
            have HBXE := Lib.hid hbx
            clear hbx
            have HNB : Hid (bx ≠ b.k ∧ bx ≠ b.h ∧ bx ≠ g ∧ vL.ownBlock ≠ some bx ∧ vA.ownBlock ≠ some bx) := Lib.hid (by
              have h0 := HBXE.out
              have h1 := D_2.out.lo
              have h2 := D_2.out.hB.2
              have h3 := D_2.out.ra.c.lt
              refine ⟨by omega, by omega, by omega, fun e => ?_, fun e => ?_⟩
              · have := (D_2.out.ra.l.block _ e).2; omega
              · have := (D_2.out.ra.a.block _ e).2; omega)
            with_reducible refine (sw_act DB.out.s xt xo xn xk HXO.out.2.1 HXO.out.2.2.1 HXO.out.2.2.2 (by have := HH.out; omega)).mono ?_
            rintro e w3 ⟨rfl, hs, hf⟩
            have S3 := Lib.hid hs
            have F3 := Lib.hid hf
            have R3 := Lib.hid (DB.out.ra.frm hf DB.out.lo.2.1 DB.out.lo.2.2)
            have LB3 := Lib.hid (hf.lies LB0.out HNB.out.1 HNB.out.2.1)
            clear hs hf
            obtain ⟨p0, p1, p2, p3⟩ := LB3.out.cells4
            skip
            go_wp2_with fail
            with_reducible refine (rleave_any B g vF vL vA r xo true w3 R3.out (DB.out.rel.sumL DB.out.s.inv (by rw [DB.out.rel.len]; have := HH.out; omega)) (DB.out.rel.sumA (by have := HAA.out; omega)) (Nat.le_trans DB.out.hB.2 F3.out.size)).mono ?_
            rintro e w4 ⟨rfl, vL4, vA4, hr, hf⟩
            have ER := Lib.hid (show rleaveS r xo true = rstep r ⟨xt, xo, xn, xk⟩ ∧ rleaveV r xo = rstepV r ⟨xt, xo, xn, xk⟩ from rs3 (fun h => h.elim t0 t1) t2)
            rw [ER.out.2, DB.out.rel.stepV DB.out.s.inv]
            have D4 := Lib.hid (DB.out.act S3.out F3.out hr hf ER.out.1)
            have LB4 := Lib.hid (hf.lies LB3.out HNB.out.2.2.1 HNB.out.2.2.2.1 HNB.out.2.2.2.2)
            have HH4 : Hid ((actS q ⟨xt, xo, xn, xk⟩).H.length ≤ 121) := Lib.hid (by have := (actS_len q ⟨xt, xo, xn, xk⟩).1; have := HH.out; omega)
            have HA4 : Hid ((rstep r ⟨xt, xo, xn, xk⟩).A.length ≤ 121) := Lib.hid (by have := (rstep_len r ⟨xt, xo, xn, xk⟩).2; have := HAA.out; omega)
            have HHJ : Hid ((actS q ⟨xt, xo, xn, xk⟩).H.length ≤ j + 1 ∧ (rstep r ⟨xt, xo, xn, xk⟩).A.length ≤ j + 1) := Lib.hid ⟨by have := (actS_len q ⟨xt, xo, xn, xk⟩).1; have := HH.out; omega, by have := (rstep_len r ⟨xt, xo, xn, xk⟩).2; have := HAA.out; omega⟩
            clear hr hf p0 p1 p2 p3 ER
            obtain ⟨qq, hqq⟩ : ∃ z, actS q ⟨xt, xo, xn, xk⟩ = z := ⟨_, rfl⟩
            obtain ⟨rr, hrr⟩ : ∃ z, rstep r ⟨xt, xo, xn, xk⟩ = z := ⟨_, rfl⟩
            obtain ⟨vv, hvv⟩ : ∃ z, verd (actV q ⟨xt, xo, xn, xk⟩) = z := ⟨_, rfl⟩
            rw [hqq, hrr] at D4
            rw [hqq] at HH4 HHJ
            rw [hrr] at HA4 HHJ
            rw [hvv]
            clear hqq hrr hvv S3 F3 R3 LB3 DB
            go_wp2_with fail
            with_reducible refine (goods_any b qq w4 D4.out.s.ok D4.out.s.inv.ks (by have := D4.out.s.inv.kz; omega)).mono ?_
            rintro e w5 ⟨v15, rfl, hg5, hb⟩
            have D5 := Lib.hid (D4.out.below hb)
            have LB5 := Lib.hid (LB4.out.below hb LB4.out.lt)
            have G5 := Lib.hid hg5
            have B5 := Lib.hid hb
            clear hg5 hb
            go_wp2_with fail
            with_reducible refine (holds_any b qq w5 D5.out.s.ok D5.out.s.inv.hs (by have := HH4.out; omega)).mono ?_
            rintro e w6 ⟨v16, rfl, hr6, hb⟩
            obtain ⟨Y, hY⟩ : ∃ Y, Y = w4 := ⟨_, rfl⟩
            have D6 := Lib.hid (D5.out.below hb)
            have LB6 := Lib.hid (LB5.out.below hb LB5.out.lt)
            have G6 := Lib.hid (show OwnG w6 Y.heap.size v15 (goodsL qq.K) from by rw [hY]; exact G5.out.below hb)
            have R6 := Lib.hid (show OwnR w6 Y.heap.size v16 qq.H from by rw [hY]; exact hr6.low B5.out.size)
            have B6 := Lib.hid (show Below Y.heap.size Y w6 from by rw [hY]; exact B5.out.trans (hb.mono B5.out.size))
            have DY := Lib.hid (show DW w Y b qq B g vF vL4 vA4 rr from by rw [hY]; exact D4.out)
            have HH6 := HH4
            have HA6 := HA4
            clear hr6 hb hY D4 D5 G5 B5 LB4 LB5
            go_upto_region 24 with fail
            go_cut [131] from 51 to 151 (fun s131 W => s131 = .bool false ∧ Below Y.heap.size Y W ∧ RowW W Y.heap.size 46 2 v15 (goodsL qq.K).length ∧ RowW W Y.heap.size 48 3 v16 qq.H.length)
            case first =>
              refine wp_region_noPanic ?_
              refine wp_region_held_drew (S := fun W => Lies W bx 35 #[.int .i64 xt, .int .u32 (xo : Int), encStr xn, .int .i64 xk]) (by kernel_rfl) LB6.out (fun hH0 => ?_)
              generalize hwd : w6.drew = wd at *
              have D7 := Lib.hid (show DW w wd b qq B g vF vL4 vA4 rr from by rw [← hwd]; exact D6.out.below ((Below.refl _ _).drew))
              have LB7 := Lib.hid (show Lies wd bx 35 #[.int .i64 xt, .int .u32 (xo : Int), encStr xn, .int .i64 xk] from by rw [← hwd]; exact LB6.out)
              have G7 := Lib.hid (show OwnG wd Y.heap.size v15 (goodsL qq.K) from by rw [← hwd]; exact G6.out)
              have R7 := Lib.hid (show OwnR wd Y.heap.size v16 qq.H from by rw [← hwd]; exact R6.out)
              have B7 := Lib.hid (show Below Y.heap.size Y wd from by rw [← hwd]; exact B6.out.drew)
              clear hwd
              refine any_take 0 95 ?vhr0 rfl rfl (by kernel_rfl) (by kernel_rfl) (by kernel_rfl) (fun _ _ _ h => h) (by rfl) ?hyhr0 hH0 ?resthr0
              case hyhr0 => ((intro W hSw); obtain ⟨o0, o1, o2, o3⟩ := Lies.cells4 hSw; go_simp; (try with_reducible rfl))
              try simp only [Act.put, List.setIfInBounds_toArray, List.set_cons_zero, List.set_cons_succ]
              refine any_take 1 96 ?vhr1 rfl rfl (by kernel_rfl) (by kernel_rfl) (by kernel_rfl) (fun _ _ _ h => h) (by rfl) ?hyhr1 hH0 ?resthr1
              case hyhr1 => ((intro W hSw); obtain ⟨o0, o1, o2, o3⟩ := Lies.cells4 hSw; go_simp; (try with_reducible rfl))
              try simp only [Act.put, List.setIfInBounds_toArray, List.set_cons_zero, List.set_cons_succ]
              refine any_take 2 97 ?vhr2 rfl rfl (by kernel_rfl) (by kernel_rfl) (by kernel_rfl) (fun _ _ _ h => h) (by rfl) ?hyhr2 hH0 ?resthr2
              case hyhr2 => ((intro W hSw); obtain ⟨o0, o1, o2, o3⟩ := Lies.cells4 hSw; go_simp; (try with_reducible rfl))
              try simp only [Act.put, List.setIfInBounds_toArray, List.set_cons_zero, List.set_cons_succ]
              refine any_take 3 98 ?vhr3 rfl rfl (by kernel_rfl) (by kernel_rfl) (by kernel_rfl) (fun _ _ _ h => h) (by rfl) ?hyhr3 hH0 ?resthr3
              case hyhr3 => ((intro W hSw); obtain ⟨o0, o1, o2, o3⟩ := Lies.cells4 hSw; go_simp; (try with_reducible rfl))
              try simp only [Act.put, List.setIfInBounds_toArray, List.set_cons_zero, List.set_cons_succ]
              refine any_take 4 99 ?vhr4 rfl rfl (by kernel_rfl) (by kernel_rfl) (by kernel_rfl) (fun _ _ _ h => h) (by rfl) ?hyhr4 hH0 ?resthr4
              case hyhr4 => ((intro W hSw); obtain ⟨o0, o1, o2, o3⟩ := Lies.cells4 hSw; go_simp; (try with_reducible rfl))
              try simp only [Act.put, List.setIfInBounds_toArray, List.set_cons_zero, List.set_cons_succ]
              refine any_take 5 100 ?vhr5 rfl rfl (by kernel_rfl) (by kernel_rfl) (by kernel_rfl) (fun _ _ _ h => h) (by rfl) ?hyhr5 hH0 ?resthr5
              case hyhr5 => ((intro W hSw); obtain ⟨o0, o1, o2, o3⟩ := Lies.cells4 hSw; go_simp; (try with_reducible rfl))
              try simp only [Act.put, List.setIfInBounds_toArray, List.set_cons_zero, List.set_cons_succ]
              refine wpAnyH_ready (rs := [6]) (by kernel_rfl) (by simp) ?_
              refine AllReadyH.cons rfl (fun K hK => ?_) AllReadyH.nil
              go_simp
              go_at_call 19
              with_reducible refine (rgoods_any B g vF vL4 vA4 rr wd D7.out.ra (D7.out.rel.fok D7.out.s.inv) (D7.out.rel.sumL D7.out.s.inv (by rw [D7.out.rel.len]; have := HH6.out; omega)) (D7.out.rel.sumA (by have := HA6.out; omega))).mono ?_
              rintro e w8 ⟨vx, rfl, ho, hb⟩
              rw [D7.out.rel.goods D7.out.s.inv] at ho
              have GX := Lib.hid ho
              have D8 := Lib.hid (D7.out.below hb)
              have LB8 := Lib.hid (LB7.out.below hb LB7.out.lt)
              have G8 := Lib.hid (G7.out.below hb)
              have R8 := Lib.hid (R7.out.below hb)
              have B8 := Lib.hid (B7.out.trans (hb.mono B7.out.size))
              clear ho hb
              refine hK.out _ _ LB8.out (fun hH1 => ?_)
              clear hK K
              try simp only [Act.put, List.setIfInBounds_toArray, List.set_cons_zero, List.set_cons_succ]
              refine wpAnyH_ready (rs := [7]) (by kernel_rfl) (by simp) ?_
              refine AllReadyH.cons rfl (fun K hK => ?_) AllReadyH.nil
              go_simp
              go_at_call 18
              with_reducible refine (sameG_own Y.heap.size wd.heap.size v15 vx (goodsL qq.K) w8 G8.out GX.out (by rw [goods_len]; have := D8.out.s.inv.kz; omega)).mono ?_
              rintro e w9 ⟨rfl, hb⟩
              have D9 := Lib.hid (D8.out.below hb)
              have LB9 := Lib.hid (LB8.out.below hb LB8.out.lt)
              have G9 := Lib.hid (G8.out.below hb)
              have R9 := Lib.hid (R8.out.below hb)
              have B9 := Lib.hid (B8.out.trans (hb.mono B8.out.size))
              clear hb
              refine hK.out _ _ LB9.out (fun hH2 => ?_)
              clear hK K
              try simp only [Act.put, List.setIfInBounds_toArray, List.set_cons_zero, List.set_cons_succ]
              refine any_take 8 103 ?vhr8 rfl rfl (by kernel_rfl) (by kernel_rfl) (by kernel_rfl) (fun _ _ _ h => h) (by rfl) ?hyhr8 hH2 ?resthr8
              case hyhr8 => ((intro W hSw); obtain ⟨o0, o1, o2, o3⟩ := Lies.cells4 hSw; go_simp; (try with_reducible rfl))
              try simp only [Act.put, List.setIfInBounds_toArray, List.set_cons_zero, List.set_cons_succ]
              refine any_take 9 104 ?vhr9 rfl rfl (by kernel_rfl) (by kernel_rfl) (by kernel_rfl) (fun _ _ _ h => h) (by rfl) ?hyhr9 hH2 ?resthr9
              case hyhr9 => ((intro W hSw); obtain ⟨o0, o1, o2, o3⟩ := Lies.cells4 hSw; go_simp; (try with_reducible rfl))
              try simp only [Act.put, List.setIfInBounds_toArray, List.set_cons_zero, List.set_cons_succ]
              refine any_take 10 105 ?vhr10 rfl rfl (by kernel_rfl) (by kernel_rfl) (by kernel_rfl) (fun _ _ _ h => h) (by rfl) ?hyhr10 hH2 ?resthr10
              case hyhr10 => ((intro W hSw); obtain ⟨o0, o1, o2, o3⟩ := Lies.cells4 hSw; go_simp; (try with_reducible rfl))
              try simp only [Act.put, List.setIfInBounds_toArray, List.set_cons_zero, List.set_cons_succ]
              refine any_take 11 106 ?vhr11 rfl rfl (by kernel_rfl) (by kernel_rfl) (by kernel_rfl) (fun _ _ _ h => h) (by rfl) ?hyhr11 hH2 ?resthr11
              case hyhr11 => ((intro W hSw); obtain ⟨o0, o1, o2, o3⟩ := Lies.cells4 hSw; go_simp; (try with_reducible rfl))
              try simp only [Act.put, List.setIfInBounds_toArray, List.set_cons_zero, List.set_cons_succ]
              refine any_take 12 107 ?vhr12 rfl rfl (by kernel_rfl) (by kernel_rfl) (by kernel_rfl) (fun _ _ _ h => h) (by rfl) ?hyhr12 hH2 ?resthr12
              case hyhr12 => ((intro W hSw); obtain ⟨o0, o1, o2, o3⟩ := Lies.cells4 hSw; go_simp; (try with_reducible rfl))
              try simp only [Act.put, List.setIfInBounds_toArray, List.set_cons_zero, List.set_cons_succ]
              refine wpAnyH_ready (rs := [13]) (by kernel_rfl) (by simp) ?_
              refine AllReadyH.cons rfl (fun K hK => ?_) AllReadyH.nil
              go_simp
              go_at_call 21
              with_reducible refine (rholds_any B g vF vL4 vA4 rr qq.H w9 D9.out.ra D9.out.s.inv.hs D9.out.rel.p (fun z hz => (D9.out.s.inv.hh z hz).2.1) (by have := HH6.out; omega)).mono ?_
              rintro e w10 ⟨vy, rfl, ho, hb⟩
              have RX := Lib.hid ho
              have D10 := Lib.hid (D9.out.below hb)
              have LB10 := Lib.hid (LB9.out.below hb LB9.out.lt)
              have G10 := Lib.hid (G9.out.below hb)
              have R10 := Lib.hid (R9.out.below hb)
              have B10 := Lib.hid (B9.out.trans (hb.mono B9.out.size))
              clear ho hb
              refine hK.out _ _ LB10.out (fun hH3 => ?_)
              clear hK K
              try simp only [Act.put, List.setIfInBounds_toArray, List.set_cons_zero, List.set_cons_succ]
              refine wpAnyH_ready (rs := [14]) (by kernel_rfl) (by simp) ?_
              refine AllReadyH.cons rfl (fun K hK => ?_) AllReadyH.nil
              go_simp
              go_at_call 20
              with_reducible refine (sameH_own Y.heap.size w9.heap.size v16 vy qq.H w10 R10.out RX.out (by have := HH6.out; omega)).mono ?_
              rintro e w11 ⟨rfl, hb⟩
              have D11 := Lib.hid (D10.out.below hb)
              have LB11 := Lib.hid (LB10.out.below hb LB10.out.lt)
              have G11 := Lib.hid (G10.out.below hb)
              have R11 := Lib.hid (R10.out.below hb)
              have B11 := Lib.hid (B10.out.trans (hb.mono B10.out.size))
              clear hb
              refine hK.out _ _ LB11.out (fun hH4 => ?_)
              clear hK K
              try simp only [Act.put, List.setIfInBounds_toArray, List.set_cons_zero, List.set_cons_succ]
              refine any_take 15 110 ?vhr15 rfl rfl (by kernel_rfl) (by kernel_rfl) (by kernel_rfl) (fun _ _ _ h => h) (by rfl) ?hyhr15 hH4 ?resthr15
              case hyhr15 => ((intro W hSw); obtain ⟨o0, o1, o2, o3⟩ := Lies.cells4 hSw; go_simp; (try with_reducible rfl))
              try simp only [Act.put, List.setIfInBounds_toArray, List.set_cons_zero, List.set_cons_succ]
              refine any_take 16 111 ?vhr16 rfl rfl (by kernel_rfl) (by kernel_rfl) (by kernel_rfl) (fun _ _ _ h => h) (by rfl) ?hyhr16 hH4 ?resthr16
              case hyhr16 => ((intro W hSw); obtain ⟨o0, o1, o2, o3⟩ := Lies.cells4 hSw; go_simp; (try with_reducible rfl))
              try simp only [Act.put, List.setIfInBounds_toArray, List.set_cons_zero, List.set_cons_succ]
              refine any_take 17 112 ?vhr17 rfl rfl (by kernel_rfl) (by kernel_rfl) (by kernel_rfl) (fun _ _ _ h => h) (by rfl) ?hyhr17 hH4 ?resthr17
              case hyhr17 => ((intro W hSw); obtain ⟨o0, o1, o2, o3⟩ := Lies.cells4 hSw; go_simp; (try with_reducible rfl))
              try simp only [Act.put, List.setIfInBounds_toArray, List.set_cons_zero, List.set_cons_succ]
              refine any_take 18 113 ?vhr18 rfl rfl (by kernel_rfl) (by kernel_rfl) (by kernel_rfl) (fun _ _ _ h => h) (by rfl) ?hyhr18 hH4 ?resthr18
              case hyhr18 => ((intro W hSw); obtain ⟨o0, o1, o2, o3⟩ := Lies.cells4 hSw; go_simp; (try with_reducible rfl))
              try simp only [Act.put, List.setIfInBounds_toArray, List.set_cons_zero, List.set_cons_succ]
              refine any_take 19 114 ?vhr19 rfl rfl (by kernel_rfl) (by kernel_rfl) (by kernel_rfl) (fun _ _ _ h => h) (by rfl) ?hyhr19 hH4 ?resthr19
              case hyhr19 => ((intro W hSw); obtain ⟨o0, o1, o2, o3⟩ := Lies.cells4 hSw; go_simp; (try with_reducible rfl))
              try simp only [Act.put, List.setIfInBounds_toArray, List.set_cons_zero, List.set_cons_succ]
              refine any_take 21 116 ?vhr21 rfl rfl (by kernel_rfl) (by kernel_rfl) (by kernel_rfl) (fun _ _ _ h => h) (by rfl) ?hyhr21 hH4 ?resthr21
              case hyhr21 => ((intro W hSw); obtain ⟨o0, o1, o2, o3⟩ := Lies.cells4 hSw; go_simp; (try with_reducible rfl))
              try simp only [Act.put, List.setIfInBounds_toArray, List.set_cons_zero, List.set_cons_succ]
              refine any_take 22 117 ?vhr22 rfl rfl (by kernel_rfl) (by kernel_rfl) (by kernel_rfl) (fun _ _ _ h => h) (by rfl) ?hyhr22 hH4 ?resthr22
              case hyhr22 => ((intro W hSw); obtain ⟨o0, o1, o2, o3⟩ := Lies.cells4 hSw; go_simp; (try with_reducible rfl))
              try simp only [Act.put, List.setIfInBounds_toArray, List.set_cons_zero, List.set_cons_succ]
              have HAX := Lib.hid (D11.out.rel.a x)
              have HAN := Lib.hid (D11.out.rel.a xn)
              refine wpAnyH_ready (rs := [20]) (by kernel_rfl) (by simp) ?_
              refine AllReadyH.cons rfl (fun K hK => ?_) AllReadyH.nil
              go_simp
              with_reducible refine (sw_gone D11.out.s x hx).mono ?_
              rintro e w12 ⟨he, rfl⟩; (try rw [HAX.out] at he); (try rw [HAN.out] at he); subst he
              refine hK.out _ _ LB11.out (fun hH5 => ?_)
              clear hK K
              try simp only [Act.put, List.setIfInBounds_toArray, List.set_cons_zero, List.set_cons_succ]
              refine wpAnyH_ready (rs := [23]) (by kernel_rfl) (by simp) ?_
              refine AllReadyH.cons rfl (fun K hK => ?_) AllReadyH.nil
              go_simp
              with_reducible refine (rgone_any B g vF vL4 vA4 rr x w11 D11.out.ra (D11.out.rel.sumA (by have := HA6.out; omega))).mono ?_
              rintro e w12 ⟨he, rfl⟩; (try rw [HAX.out] at he); (try rw [HAN.out] at he); subst he
              refine hK.out _ _ LB11.out (fun hH5b => ?_)
              clear hK K
              try simp only [Act.put, List.setIfInBounds_toArray, List.set_cons_zero, List.set_cons_succ]
              refine any_take 24 119 ?vhra24 rfl rfl (by kernel_rfl) (by kernel_rfl) (by kernel_rfl) (fun _ _ _ h => h) (by rfl) ?hyhra24 hH5b ?resthra24
              case hyhra24 => ((intro W hSw); obtain ⟨o0, o1, o2, o3⟩ := Lies.cells4 hSw; go_simp; (try with_reducible rfl))
              try simp only [Act.put, List.setIfInBounds_toArray, List.set_cons_zero, List.set_cons_succ]
              refine any_take 25 120 ?vhra25 rfl rfl (by kernel_rfl) (by kernel_rfl) (by kernel_rfl) (fun _ _ _ h => h) (by rfl) ?hyhra25 hH5b ?resthra25
              case hyhra25 => ((intro W hSw); obtain ⟨o0, o1, o2, o3⟩ := Lies.cells4 hSw; go_simp; (try with_reducible rfl))
              try simp only [Act.put, List.setIfInBounds_toArray, List.set_cons_zero, List.set_cons_succ]
              refine any_take 26 121 ?vhra26 rfl rfl (by kernel_rfl) (by kernel_rfl) (by kernel_rfl) (fun _ _ _ h => h) (by rfl) ?hyhra26 hH5b ?resthra26
              case hyhra26 => ((intro W hSw); obtain ⟨o0, o1, o2, o3⟩ := Lies.cells4 hSw; go_simp; (try with_reducible rfl))
              try simp only [Act.put, List.setIfInBounds_toArray, List.set_cons_zero, List.set_cons_succ]
              refine any_take 27 122 ?vhra27 rfl rfl (by kernel_rfl) (by kernel_rfl) (by kernel_rfl) (fun _ _ _ h => h) (by rfl) ?hyhra27 hH5b ?resthra27
              case hyhra27 => ((intro W hSw); obtain ⟨o0, o1, o2, o3⟩ := Lies.cells4 hSw; go_simp; (try with_reducible rfl))
              try simp only [Act.put, List.setIfInBounds_toArray, List.set_cons_zero, List.set_cons_succ]
              refine any_take 28 123 ?vhra28 rfl rfl (by kernel_rfl) (by kernel_rfl) (by kernel_rfl) (fun _ _ _ h => h) (by rfl) ?hyhra28 hH5b ?resthra28
              case hyhra28 => ((intro W hSw); obtain ⟨o0, o1, o2, o3⟩ := Lies.cells4 hSw; go_simp; (try with_reducible rfl))
              try simp only [Act.put, List.setIfInBounds_toArray, List.set_cons_zero, List.set_cons_succ]
              refine any_take 29 124 ?vhra29 rfl rfl (by kernel_rfl) (by kernel_rfl) (by kernel_rfl) (fun _ _ _ h => h) (by rfl) ?hyhra29 hH5b ?resthra29
              case hyhra29 => ((intro W hSw); obtain ⟨o0, o1, o2, o3⟩ := Lies.cells4 hSw; go_simp; (try with_reducible rfl))
              try simp only [Act.put, List.setIfInBounds_toArray, List.set_cons_zero, List.set_cons_succ]
              refine any_take 31 126 ?vhra31 rfl rfl (by kernel_rfl) (by kernel_rfl) (by kernel_rfl) (fun _ _ _ h => h) (by rfl) ?hyhra31 hH5b ?resthra31
              case hyhra31 => ((intro W hSw); obtain ⟨o0, o1, o2, o3⟩ := Lies.cells4 hSw; go_simp; (try with_reducible rfl))
              try simp only [Act.put, List.setIfInBounds_toArray, List.set_cons_zero, List.set_cons_succ]
              refine any_take 32 127 ?vhra32 rfl rfl (by kernel_rfl) (by kernel_rfl) (by kernel_rfl) (fun _ _ _ h => h) (by rfl) ?hyhra32 hH5b ?resthra32
              case hyhra32 => ((intro W hSw); obtain ⟨o0, o1, o2, o3⟩ := Lies.cells4 hSw; go_simp; (try with_reducible rfl))
              try simp only [Act.put, List.setIfInBounds_toArray, List.set_cons_zero, List.set_cons_succ]
              refine any_take 33 128 ?vhra33 rfl rfl (by kernel_rfl) (by kernel_rfl) (by kernel_rfl) (fun _ _ _ h => h) (by rfl) ?hyhra33 hH5b ?resthra33
              case hyhra33 => ((intro W hSw); obtain ⟨o0, o1, o2, o3⟩ := Lies.cells4 hSw; go_simp; (try with_reducible rfl))
              try simp only [Act.put, List.setIfInBounds_toArray, List.set_cons_zero, List.set_cons_succ]
              refine wpAnyH_ready (rs := [30]) (by kernel_rfl) (by simp) ?_
              refine AllReadyH.cons rfl (fun K hK => ?_) AllReadyH.nil
              go_simp
              with_reducible refine (sw_gone D11.out.s xn HXO.out.2.2.1).mono ?_
              rintro e w12 ⟨he, rfl⟩; (try rw [HAX.out] at he); (try rw [HAN.out] at he); subst he
              refine hK.out _ _ LB11.out (fun hH6 => ?_)
              clear hK K
              try simp only [Act.put, List.setIfInBounds_toArray, List.set_cons_zero, List.set_cons_succ]
              refine wpAnyH_ready (rs := [34]) (by kernel_rfl) (by simp) ?_
              refine AllReadyH.cons rfl (fun K hK => ?_) AllReadyH.nil
              go_simp
              with_reducible refine (rgone_any B g vF vL4 vA4 rr xn w11 D11.out.ra (D11.out.rel.sumA (by have := HA6.out; omega))).mono ?_
              rintro e w12 ⟨he, rfl⟩; (try rw [HAX.out] at he); (try rw [HAN.out] at he); subst he
              refine hK.out _ _ LB11.out (fun hH6b => ?_)
              clear hK K
              try simp only [Act.put, List.setIfInBounds_toArray, List.set_cons_zero, List.set_cons_succ]
              refine any_take 35 130 ?vhrap35 rfl rfl (by kernel_rfl) (by kernel_rfl) (by kernel_rfl) (fun _ _ _ h => h) (by rfl) ?hyhrap35 hH6b ?resthrap35
              case hyhrap35 => ((intro W hSw); obtain ⟨o0, o1, o2, o3⟩ := Lies.cells4 hSw; go_simp; (try with_reducible rfl))
              try simp only [Act.put, List.setIfInBounds_toArray, List.set_cons_zero, List.set_cons_succ]
              refine any_take 36 131 ?vhrap36 rfl rfl (by kernel_rfl) (by kernel_rfl) (by kernel_rfl) (fun _ _ _ h => h) (by rfl) ?hyhrap36 hH6b ?resthrap36
              case hyhrap36 => ((intro W hSw); obtain ⟨o0, o1, o2, o3⟩ := Lies.cells4 hSw; go_simp; (try with_reducible rfl))
              try simp only [Act.put, List.setIfInBounds_toArray, List.set_cons_zero, List.set_cons_succ]
              refine wpAnyH_done (by kernel_rfl) ?_ _
              refine NoPanic.normal ?_
              go_wp2_with fail
              go_meet
              exact ⟨rfl, B11.out, G11.out.roww, R11.out.roww⟩
            case rest =>
              obtain ⟨rfl, hbc, hg1, hr1⟩ := hcut
              have BC := Lib.hid hbc
              have GC := Lib.hid hg1
              have RC := Lib.hid hr1
              obtain ⟨A15, c15, rfl, -, -⟩ := G6.out.gin
              obtain ⟨A16, c16, rfl, -, -⟩ := R6.out.hin
              have hkz : ((goodsL qq.K).length : Int) ≤ 50 := by rw [goods_len]; have := DY.out.s.inv.kz; omega
              have hhz : (qq.H.length : Int) ≤ 121 := by have := HH6.out; omega
              clear hbc hg1 hr1 D6 LB6 G6 R6 B6
              obtain ⟨n5, hn5⟩ : ∃ z, (goodsL qq.K).length = z := ⟨_, rfl⟩
              obtain ⟨n6, hn6⟩ : ∃ z, qq.H.length = z := ⟨_, rfl⟩
              rw [hn5] at GC hkz ⊢
              rw [hn6] at RC hhz ⊢
              clear hn5 hn6
              go_wp2_with fail
              go_loopw [17] (fun v17 wr => DoK Y (.slice A15 n5 c15) (.slice A16 n6 c16) n5 n6 v17 wr) (fun i _ => n5 - (intOf i).toNat)
              case atStart => exact ⟨0, by omega, rfl, BC.out, GC.out, RC.out⟩
              case round =>
                clear GC RC BC
                obtain ⟨k, hk, rfl, hb, hg, hr⟩ := hrel
                have HB7 := Lib.hid hb
                have HG7 := Lib.hid hg
                have HR7 := Lib.hid hr
                clear hb hg hr
                by_cases hk1 : k < n5
                · have hk2 : (k : Int) < (n5 : Int) := by omega
                  rcases HG7.out with h | ⟨g5, o5, cc, cs5, e5, hg5, hL5, hs5⟩
                  · omega
                  injection e5 with q1 q2 q3
                  subst q1 q3
                  have HL5 := Lib.hid hL5
                  clear hL5 q2
                  go_wp2_with (first | ((with_reducible refine wpl_putC none _ _ _ 3 (.tmp 141) (.const (.int .i64 (-7))) g5 (o5 + k * 2 + 1) 46 cs5 (.int .i64 (-7)) ?px ?py HL5.out ?pi ?ps rfl ?_); (case px => rfl); (case py => rfl); (case pi => omega); (case ps => kernel_rfl); (intro w8 hp8; (have HP8 := Lib.hid hp8); clear hp8)))
                  go_roundw
                  case rel => exact ⟨k + 1, by omega, by go_num, HB7.out.grown HP8.out.grown HB7.out.size (fun z hz => by injection hz with hz; omega), .inr ⟨g5, o5, _, _, rfl, hg5, HP8.out.lies, by simp; omega⟩, HR7.out.put HL5.out HP8.out (by decide)⟩
                  case measure => simp [intOf]; omega
                · have hk2 : decide ((k : Int) < (n5 : Int)) = false := by simp; omega
                  clear HG7
                  go_wp2_with fail
                  go_loopw [18] (fun v18 wr => DoM Y (.slice A16 n6 c16) n6 v18 wr) (fun i _ => n6 - (intOf i).toNat)
                  case atStart => exact ⟨0, by omega, rfl, HB7.out, HR7.out⟩
                  case round =>
                    clear HB7 HR7 hk hk1 hk2
                    obtain ⟨k, hk, rfl, hb, hr⟩ := hrel
                    have HB8 := Lib.hid hb
                    have HR8 := Lib.hid hr
                    clear hb hr
                    by_cases hk1 : k < n6
                    · have hk2 : (k : Int) < (n6 : Int) := by omega
                      rcases HR8.out with h | ⟨g5, o5, cc, cs5, e5, hg5, hL5, hs5⟩
                      · omega
                      injection e5 with q1 q2 q3
                      subst q1 q3
                      have HL5 := Lib.hid hL5
                      clear hL5 q2
                      go_wp2_with (first | ((with_reducible refine wpl_putC none _ _ _ 3 (.tmp 151) (.const (.int .i64 (-7))) g5 (o5 + k * 3 + 2) 48 cs5 (.int .i64 (-7)) ?px ?py HL5.out ?pi ?ps rfl ?_); (case px => rfl); (case py => rfl); (case pi => omega); (case ps => kernel_rfl); (intro w8 hp8; (have HP8 := Lib.hid hp8); clear hp8)))
                      go_roundw
                      case rel => exact ⟨k + 1, by omega, by go_num, HB8.out.grown HP8.out.grown HB8.out.size (fun z hz => by injection hz with hz; omega), .inr ⟨g5, o5, _, _, rfl, hg5, HP8.out.lies, by simp; omega⟩⟩
                      case measure => simp [intOf]; omega
                    · have hk2 : decide ((k : Int) < (n6 : Int)) = false := by simp; omega
                      go_wp2_with fail
                      go_roundw
                      case rel => exact ⟨j + 1, qq, vF, vL4, vA4, rr, by omega, by omega, by go_num, DY.out.below HB8.out, HHJ.out.1, HHJ.out.2⟩
                      case measure => simp [intOf]; omega
          · have e2 : decide ((j : Int) < 120) = false := by simp; omega
            go_wp2_with fail
            with_reducible refine (HK.out _).mono ?_
            rintro e w9 ⟨rfl, hb⟩
            have S_9 := Lib.hid (D_2.out.s.below hb)
            clear hb
            go_wp2
            go_ret
            exact ⟨rfl, S_9.out.bel⟩
        · have hnl : decide ((j : Int) < (m : Int)) = false := by simp; omega
          go_wp2_with fail
          with_reducible refine (HK.out _).mono ?_
          rintro e w9 ⟨rfl, hb⟩
          have S_9 := Lib.hid (D_2.out.s.below hb)
          clear hb
          go_wp2
          go_ret
          exact ⟨rfl, S_9.out.bel⟩

end Go.Proofs.Ytimoobhnhldgbaa
