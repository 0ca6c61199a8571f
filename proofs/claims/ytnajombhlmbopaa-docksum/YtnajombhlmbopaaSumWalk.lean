/-
  The walk of DockSum.
-/
import Derived.Test.YtnajombhlmbopaaLawB
namespace Go.Proofs.Ytnajombhlmbopaa
open Go.Proofs Go.RowKit
set_option maxRecDepth 100000
set_option linter.unusedVariables false
set_option linter.unusedSimpArgs false

/-- Over the days, over the bookings. -/
def SuR2 (n : Nat) (y : World) (v13 : Value) (wr : World) : Prop := ∃ k : Nat, k ≤ n ∧ v13 = .int .i64 (k : Int) ∧ Below y.heap.size y wr
def SuR3 (q : Ss) (d : Nat) (y : World) (v14 v15 : Value) : Prop := ∃ p : Nat, p ≤ q.H.length ∧ v15 = .int .i64 (p : Int) ∧ v14 = .int .i64 (fr q.F d + bkd (q.H.take p) d)
theorem bkd_take {H : List Hd} {p : Nat} (hp : p < H.length) (d : Nat) : bkd (H.take (p + 1)) d = bkd (H.take p) d + if H[p].d == d then H[p].k else 0 := by
  rw [List.take_succ_eq_append_getElem hp, bkd_append]
  simp [bkd]
theorem bkd_bnd {H : List Hd} (h : ∀ y ∈ H, 1 ≤ y.k) (d p : Nat) : 0 ≤ bkd (H.take p) d ∧ bkd (H.take p) d ≤ bkd H d := by
  have h1 : ∀ y ∈ H.take p, 1 ≤ y.k := fun y hy => h y (List.mem_of_mem_take hy)
  have h2 : ∀ y ∈ H.drop p, 1 ≤ y.k := fun y hy => h y (List.mem_of_mem_drop hy)
  have e : bkd H d = bkd (H.take p) d + bkd (H.drop p) d := by rw [← bkd_append, List.take_append_drop]
  have a := bkd_nonneg h1 d
  have b := bkd_nonneg h2 d
  omega


set_option maxHeartbeats 16000000 in
theorem dockSum_walk (A : Option Addr) (n c : Nat) (l : List Int) (B : Option Addr) (m d : Nat) (a : List Ac)  (w : World) (hG : Iin w A n l) (hn : n ≤ maxLen) (hIO : IntsOk l) (hA : Ain w B m a) (hm : m ≤ maxLen) (hAO : ActsOk a) 
    (KN : ∀ W, Calls Try.prog 9 #[] W fun e w' => e = .returned (.bool true) ∧ Below W.heap.size W w') :
    Calls Try.prog 4 #[.slice A n c, .slice B m d] w fun e w' => e = .returned (.bool true) ∧ Below w.heap.size w w' := by
  have HG := Lib.hid hG
  have HN := Lib.hid hG.1
  have HK := Lib.hid KN
  have HIO := Lib.hid hIO
  have HA := Lib.hid hA
  have HAO := Lib.hid hAO
  have HM := Lib.hid hA.1
  have hmm : (m : Int) ≤ 9223372036854775807 := by unfold maxLen at hm; omega
  have hnn0 : (n : Int) ≤ 9223372036854775807 := by unfold maxLen at hn; omega
  clear hG KN hn hIO hA hAO hm
  by_cases h200 : 200 < n
  · have e0 : decide ((200 : Int) < (n : Int)) = true := by simp; omega
    go_enter Try.func4, Try.ntmps4
    go_wp2_with fail
    with_reducible refine (HK.out _).mono ?_
    rintro e w2 ⟨rfl, hb⟩
    have HB := Lib.hid hb
    clear hb
    go_wp2
    go_ret
    exact ⟨rfl, HB.out⟩
  · have e0 : decide ((200 : Int) < (n : Int)) = false := by simp; omega
    go_enter Try.func4, Try.ntmps4
    go_wp2_with fail
    with_reducible refine (sw_new (Below.refl _ _) A n c l HG.out (by omega)).mono ?_
    rintro e w1 ⟨hb, ⟨h1, rfl⟩ | ⟨b, h1, rfl, hs, -⟩⟩
    · have HB := Lib.hid hb
      clear hb h1
      go_wp2_with fail
      with_reducible refine (HK.out _).mono ?_
      rintro e w2 ⟨rfl, hb⟩
      have HB2 := Lib.hid (HB.out.trans (hb.mono HB.out.size))
      clear hb
      go_wp2
      go_ret
      exact ⟨rfl, HB2.out⟩
    · have S_1 := Lib.hid hs
      have HNO := Lib.hid h1
      clear hb h1 hs
      go_wp2_with fail
      go_loopw [7] (fun i wr => AcR 100 w l a b i wr) (fun i _ => 101 - (intOf i).toNat)
      case atStart => exact ⟨0, ⟨l, []⟩, by omega, by omega, rfl, S_1.out, Nat.le_refl _⟩
      case round =>
        clear S_1
        obtain ⟨j, q, hj, hj2, rfl, hS, hH⟩ := hrel
        have S_2 := Lib.hid hS
        have HH := Lib.hid hH
        clear hS hH
        have hjm : j ≤ m := by have := HM.out; omega
        by_cases hlt : j < m
        · have hlt2 : (j : Int) < (m : Int) := by omega
          by_cases hq3 : j < 100
          · have e2 : decide ((j : Int) < 100) = true := by simp; omega
            have hlt3 : j < a.length := by have := HM.out; omega
            have hn60 : n ≤ 60 := by have h1 := S_2.out.inv.fz; have h2 := HN.out; omega
            go_wp2_with fail
            with_reducible refine (sw_bks S_2.out (by have := HH.out; omega)).mono ?_
            rintro e w3 ⟨RHv, rfl, hr, hs, hf⟩
            have S_3 := Lib.hid hs
            have RH_3 := Lib.hid hr
            clear hs hf hr
            go_wp2_with fail
            with_reducible refine (sw_rooms S_3.out n (by omega)).mono ?_
            rintro e w4 ⟨RIv, rfl, hr, hs, hf⟩
            have S_4 := Lib.hid hs
            have RH_4 := Lib.hid (RH_3.out.below hf)
            have RI_4 := Lib.hid hr
            clear hs hf hr
            obtain ⟨b0, off, rfl, hbl, hcell⟩ := HA.out.2 (by omega)
            obtain ⟨xx, hxx⟩ : ∃ q, a[j] = q := ⟨_, rfl⟩
            have hcj := hcell j hlt3
            rw [hxx] at hcj
            have HXO := Lib.hid (HAO.out a[j] (List.getElem_mem hlt3))
            rw [hxx] at HXO
            have HCJ := Lib.hid (And.intro hcj hbl)
            clear hcell hxx hcj hbl
            obtain ⟨xt, xo, xf, xk⟩ := xx
            dsimp only at HXO HCJ
            obtain ⟨⟨x0, x1, x2, x3⟩, hbl⟩ := HCJ.out
            rw [← S_4.out.bel.cell (p := ⟨b0, off + j * 4, none⟩) hbl] at x0
            rw [← S_4.out.bel.cell (p := ⟨b0, off + j * 4 + 1, none⟩) hbl] at x1
            rw [← S_4.out.bel.cell (p := ⟨b0, off + j * 4 + 2, none⟩) hbl] at x2
            rw [← S_4.out.bel.cell (p := ⟨b0, off + j * 4 + 3, none⟩) hbl] at x3
            clear hbl
            have HH2 := Lib.hid (actS_len q ⟨xt, xo, xf, xk⟩)
            go_wp2_with fail
            with_reducible refine (sw_act S_4.out xt xo xf xk HXO.out.2.1 HXO.out.2.2.1 HXO.out.2.2.2 (by have := HH.out; omega)).mono ?_
            rintro e w5 ⟨he, hs, hf⟩
            subst he
            have S_5 := Lib.hid hs
            have RH_5 := Lib.hid (RH_4.out.frm hf)
            have RI_5 := Lib.hid (RI_4.out.frm hf)
            clear hs hf
            clear x0 x1 x2 x3
            have HL5 : Hid ((actS q ⟨xt, xo, xf, xk⟩).H.length ≤ j + 1) := Lib.hid (by have := HH.out; have := HH2.out.1; omega)
            obtain ⟨q3, hq3'⟩ : ∃ q3, actS q ⟨xt, xo, xf, xk⟩ = q3 := ⟨_, rfl⟩
            obtain ⟨vb, hvb⟩ : ∃ vb, actV q ⟨xt, xo, xf, xk⟩ = vb := ⟨_, rfl⟩
            obtain ⟨db, hdb⟩ : ∃ db, actD q ⟨xt, xo, xf, xk⟩ = db := ⟨_, rfl⟩
            have HNC : Hid (vb = false → q3 = q) := Lib.hid (fun h => by rw [← hq3']; exact actS_no (hvb.trans h))
            rw [hq3'] at S_5 HL5
            rw [hvb, hdb]
            clear hq3' hvb hdb HH2
            go_wp2_with fail
            with_reducible refine (sw_bks S_5.out (by have := HL5.out; omega)).mono ?_
            rintro e w6 ⟨RBv, rfl, hr, hs, hf⟩
            have S_6 := Lib.hid hs
            have RH_6 := Lib.hid (RH_5.out.below hf)
            have RI_6 := Lib.hid (RI_5.out.below hf)
            have RB_6 := Lib.hid hr
            clear hs hf hr
            cases vb
            · obtain rfl : q = q3 := (HNC.out rfl).symm
              have hv2 : verd false = 2 := rfl
              rw [hv2]
              clear hv2
              go_wp2_with fail
              with_reducible refine (sw_sameH S_6.out RH_6.out RB_6.out (by have := HH.out; omega)).mono ?_
              rintro e w7 ⟨he, hs, hf⟩
              subst he
              have S_7 := Lib.hid hs
              have RH_7 := Lib.hid (RH_6.out.below hf)
              have RI_7 := Lib.hid (RI_6.out.below hf)
              have RB_7 := Lib.hid (RB_6.out.below hf)
              clear hs hf
              go_wp2_with fail
              with_reducible refine (sw_rooms S_7.out n (by omega)).mono ?_
              rintro e w8 ⟨RJv, rfl, hr, hs, hf⟩
              have S_8 := Lib.hid hs
              have RH_8 := Lib.hid (RH_7.out.below hf)
              have RI_8 := Lib.hid (RI_7.out.below hf)
              have RB_8 := Lib.hid (RB_7.out.below hf)
              have RJ_8 := Lib.hid hr
              clear hs hf hr
              go_wp2_with fail
              with_reducible refine (sw_sameI S_8.out RI_8.out RJ_8.out (by rw [roomsL_len]; omega)).mono ?_
              rintro e w9 ⟨he, hs, hf⟩
              subst he
              have S_9 := Lib.hid hs
              have RH_9 := Lib.hid (RH_8.out.below hf)
              have RI_9 := Lib.hid (RI_8.out.below hf)
              have RB_9 := Lib.hid (RB_8.out.below hf)
              have RJ_9 := Lib.hid (RJ_8.out.below hf)
              clear hs hf
              obtain ⟨Ar, cr, rfl, -, -⟩ := RB_9.out.hin
              have hlen : (q.H.length : Int) ≤ 1000 := by have := HL5.out; omega
              go_wp2_with fail
              go_loopw [13] (fun v13 wr => SuR2 n w9 v13 wr) (fun i _ => n - (intOf i).toNat)
              case atStart => exact ⟨0, by omega, rfl, Below.refl _ _⟩
              case round =>
                obtain ⟨k, hk, rfl, hB⟩ := hrel
                have HB := Lib.hid hB
                have S_20 := Lib.hid (S_9.out.below hB)
                have RH_20 := Lib.hid (RB_9.out.below hB)
                clear hB
                by_cases hkn : k < n
                · have hkn2 : (k : Int) < (n : Int) := by omega
                  have hkl : k < l.length := by have := HN.out; omega
                  have HFK := Lib.hid (S_20.out.inv.ff k hkl)
                  have HRK := Lib.hid (S_20.out.inv.rr k hkl)
                  have HPOS := Lib.hid (fun p => bkd_bnd S_20.out.inv.pos k p)
                  have C1 := sw_room S_20.out (k : Int)
                  rw [roomI_nat] at C1
                  have HC1 := Lib.hid C1
                  clear C1
                  obtain ⟨x, hx⟩ : ∃ x, fr q.F k = x := ⟨_, rfl⟩
                  rw [hx] at HC1 HFK
                  have HX := Lib.hid hx
                  clear hx
                  go_wp2_with fail
                  with_reducible refine HC1.out.mono ?_
                  rintro e w21 ⟨rfl, hs, hf⟩
                  have S_21 := Lib.hid hs
                  have HB21 := Lib.hid (HB.out.trans (hf.mono HB.out.size))
                  have RH_21 := Lib.hid (RH_20.out.below hf)
                  clear hs hf HC1
                  have f1 : decide (x < 0) = false := by have := HFK.out.1; simp; omega
                  go_wp2_with fail
                  clear f1
                  go_loop [14, 15] (fun v14 v15 => SuR3 q k w21 v14 v15) (fun _ i => q.H.length - (intOf i).toNat)
                  case atStart => exact ⟨0, by omega, rfl, by rw [HX.out]; simp [bkd]⟩
                  case round =>
                    obtain ⟨p, hp, rfl, rfl⟩ := hrel
                    rw [HX.out]
                    obtain ⟨hb1, hb2⟩ := HPOS.out p
                    by_cases hpl : p < q.H.length
                    · have hpl2 : (p : Int) < (q.H.length : Int) := by omega
                      have HST := Lib.hid (bkd_take hpl k)
                      obtain ⟨g, o, rfl, -, y0, y1, y2⟩ := RH_21.out.at p hpl
                      obtain ⟨hb3, hb4⟩ := HPOS.out (p + 1)
                      obtain ⟨y, hy⟩ : ∃ y, q.H[p] = y := ⟨_, rfl⟩
                      rw [hy] at y0 y1 y2 HST
                      obtain ⟨s, hs⟩ : ∃ s, bkd (q.H.take p) k = s := ⟨_, rfl⟩
                      obtain ⟨s2, hs2⟩ : ∃ s, bkd (q.H.take (p + 1)) k = s := ⟨_, rfl⟩
                      obtain ⟨s3, hs3⟩ : ∃ s, bkd q.H k = s := ⟨_, rfl⟩
                      rw [hs] at HST hb1 hb2 ⊢
                      rw [hs2] at HST hb3 hb4
                      have HS2 := Lib.hid hs2
                      rw [hs3] at hb2 hb4
                      have HFK2 := HFK.out
                      rw [hs3] at HFK2
                      have HRK2 := HRK.out
                      clear hy hs hs2 hs3 y0
                      by_cases hyd : y.d = k
                      · have hst : s2 = s + y.k := by rw [HST.out, if_pos (by simpa using hyd)]
                        have f2 : (((y.d : Int) == (k : Int)) : Bool) = true := by simp; omega
                        have f2b : (y.d == k) = true := by simpa using hyd
                        have ew : IntKind.i64.wrap (x + s + y.k) = x + s + y.k := IntWalk.i64_in _ (by omega)
                        have HS3 : Hid (x + s + y.k = x + bkd (q.H.take (p + 1)) k) := Lib.hid (by rw [HS2.out, hst]; omega)
                        clear hst hyd HFK2 HRK2 hb1 hb2 hb3 hb4
                        go_wp2
                        go_round
                        case rel => exact ⟨p + 1, by omega, by go_num, by rw [HX.out, HS3.out]⟩
                        case measure => simp [intOf]; omega
                      · have hst : s2 = s := by rw [HST.out, if_neg (by simpa using hyd)]; omega
                        have f2 : (((y.d : Int) == (k : Int)) : Bool) = false := beq_eq_false_iff_ne.2 (by omega)
                        have f2b : (y.d == k) = false := by simpa using hyd
                        have HS3 : Hid (x + s = x + bkd (q.H.take (p + 1)) k) := Lib.hid (by rw [HS2.out, hst])
                        clear hst hyd HFK2 HRK2 hb1 hb2 hb3 hb4
                        go_wp2
                        go_round
                        case rel => exact ⟨p + 1, by omega, by go_num, by rw [HX.out, HS3.out]⟩
                        case measure => simp [intOf]; omega
                    · have hpl2 : decide ((p : Int) < (q.H.length : Int)) = false := by simp; omega
                      have hpp : q.H.take p = q.H := List.take_of_length_le (by omega)
                      rw [hpp]
                      have hfin : x + bkd q.H k = fr l k := HFK.out.2
                      rw [hfin]
                      clear hpp hb1 hb2 hfin
                      obtain ⟨g1, o1, rfl, hg1, hcell⟩ := HG.out.2 (by omega)
                      have z0 := hcell k hkl
                      rw [fr_get hkl] at z0
                      rw [← S_21.out.bel.cell (p := ⟨g1, o1 + k, none⟩) hg1] at z0
                      obtain ⟨z, hz⟩ : ∃ z, fr l k = z := ⟨_, rfl⟩
                      rw [hz] at z0 ⊢
                      clear hcell hz
                      have f3 : (z != z) = false := by simp
                      go_wp2
                      go_roundw
                      case rel => exact ⟨k + 1, by omega, by go_num, HB21.out⟩
                      case measure => simp [intOf]; omega
                · have hkn2 : decide ((k : Int) < (n : Int)) = false := by simp; omega
                  go_wp2
                  go_roundw
                  case rel => exact ⟨j + 1, q, by omega, by omega, by go_num, S_20.out, HL5.out⟩
                  case measure => simp [intOf]; omega
            · have hv1 : verd true = 1 := rfl
              rw [hv1]
              clear hv1
              obtain ⟨Ar, cr, rfl, -, -⟩ := RB_6.out.hin
              have hlen : (q3.H.length : Int) ≤ 1000 := by have := HL5.out; omega
              go_wp2_with fail
              go_loopw [13] (fun v13 wr => SuR2 n w6 v13 wr) (fun i _ => n - (intOf i).toNat)
              case atStart => exact ⟨0, by omega, rfl, Below.refl _ _⟩
              case round =>
                obtain ⟨k, hk, rfl, hB⟩ := hrel
                have HB := Lib.hid hB
                have S_20 := Lib.hid (S_6.out.below hB)
                have RH_20 := Lib.hid (RB_6.out.below hB)
                clear hB
                by_cases hkn : k < n
                · have hkn2 : (k : Int) < (n : Int) := by omega
                  have hkl : k < l.length := by have := HN.out; omega
                  have HFK := Lib.hid (S_20.out.inv.ff k hkl)
                  have HRK := Lib.hid (S_20.out.inv.rr k hkl)
                  have HPOS := Lib.hid (fun p => bkd_bnd S_20.out.inv.pos k p)
                  have C1 := sw_room S_20.out (k : Int)
                  rw [roomI_nat] at C1
                  have HC1 := Lib.hid C1
                  clear C1
                  obtain ⟨x, hx⟩ : ∃ x, fr q3.F k = x := ⟨_, rfl⟩
                  rw [hx] at HC1 HFK
                  have HX := Lib.hid hx
                  clear hx
                  go_wp2_with fail
                  with_reducible refine HC1.out.mono ?_
                  rintro e w21 ⟨rfl, hs, hf⟩
                  have S_21 := Lib.hid hs
                  have HB21 := Lib.hid (HB.out.trans (hf.mono HB.out.size))
                  have RH_21 := Lib.hid (RH_20.out.below hf)
                  clear hs hf HC1
                  have f1 : decide (x < 0) = false := by have := HFK.out.1; simp; omega
                  go_wp2_with fail
                  clear f1
                  go_loop [14, 15] (fun v14 v15 => SuR3 q3 k w21 v14 v15) (fun _ i => q3.H.length - (intOf i).toNat)
                  case atStart => exact ⟨0, by omega, rfl, by rw [HX.out]; simp [bkd]⟩
                  case round =>
                    obtain ⟨p, hp, rfl, rfl⟩ := hrel
                    rw [HX.out]
                    obtain ⟨hb1, hb2⟩ := HPOS.out p
                    by_cases hpl : p < q3.H.length
                    · have hpl2 : (p : Int) < (q3.H.length : Int) := by omega
                      have HST := Lib.hid (bkd_take hpl k)
                      obtain ⟨g, o, rfl, -, y0, y1, y2⟩ := RH_21.out.at p hpl
                      obtain ⟨hb3, hb4⟩ := HPOS.out (p + 1)
                      obtain ⟨y, hy⟩ : ∃ y, q3.H[p] = y := ⟨_, rfl⟩
                      rw [hy] at y0 y1 y2 HST
                      obtain ⟨s, hs⟩ : ∃ s, bkd (q3.H.take p) k = s := ⟨_, rfl⟩
                      obtain ⟨s2, hs2⟩ : ∃ s, bkd (q3.H.take (p + 1)) k = s := ⟨_, rfl⟩
                      obtain ⟨s3, hs3⟩ : ∃ s, bkd q3.H k = s := ⟨_, rfl⟩
                      rw [hs] at HST hb1 hb2 ⊢
                      rw [hs2] at HST hb3 hb4
                      have HS2 := Lib.hid hs2
                      rw [hs3] at hb2 hb4
                      have HFK2 := HFK.out
                      rw [hs3] at HFK2
                      have HRK2 := HRK.out
                      clear hy hs hs2 hs3 y0
                      by_cases hyd : y.d = k
                      · have hst : s2 = s + y.k := by rw [HST.out, if_pos (by simpa using hyd)]
                        have f2 : (((y.d : Int) == (k : Int)) : Bool) = true := by simp; omega
                        have f2b : (y.d == k) = true := by simpa using hyd
                        have ew : IntKind.i64.wrap (x + s + y.k) = x + s + y.k := IntWalk.i64_in _ (by omega)
                        have HS3 : Hid (x + s + y.k = x + bkd (q3.H.take (p + 1)) k) := Lib.hid (by rw [HS2.out, hst]; omega)
                        clear hst hyd HFK2 HRK2 hb1 hb2 hb3 hb4
                        go_wp2
                        go_round
                        case rel => exact ⟨p + 1, by omega, by go_num, by rw [HX.out, HS3.out]⟩
                        case measure => simp [intOf]; omega
                      · have hst : s2 = s := by rw [HST.out, if_neg (by simpa using hyd)]; omega
                        have f2 : (((y.d : Int) == (k : Int)) : Bool) = false := beq_eq_false_iff_ne.2 (by omega)
                        have f2b : (y.d == k) = false := by simpa using hyd
                        have HS3 : Hid (x + s = x + bkd (q3.H.take (p + 1)) k) := Lib.hid (by rw [HS2.out, hst])
                        clear hst hyd HFK2 HRK2 hb1 hb2 hb3 hb4
                        go_wp2
                        go_round
                        case rel => exact ⟨p + 1, by omega, by go_num, by rw [HX.out, HS3.out]⟩
                        case measure => simp [intOf]; omega
                    · have hpl2 : decide ((p : Int) < (q3.H.length : Int)) = false := by simp; omega
                      have hpp : q3.H.take p = q3.H := List.take_of_length_le (by omega)
                      rw [hpp]
                      have hfin : x + bkd q3.H k = fr l k := HFK.out.2
                      rw [hfin]
                      clear hpp hb1 hb2 hfin
                      obtain ⟨g1, o1, rfl, hg1, hcell⟩ := HG.out.2 (by omega)
                      have z0 := hcell k hkl
                      rw [fr_get hkl] at z0
                      rw [← S_21.out.bel.cell (p := ⟨g1, o1 + k, none⟩) hg1] at z0
                      obtain ⟨z, hz⟩ : ∃ z, fr l k = z := ⟨_, rfl⟩
                      rw [hz] at z0 ⊢
                      clear hcell hz
                      have f3 : (z != z) = false := by simp
                      go_wp2
                      go_roundw
                      case rel => exact ⟨k + 1, by omega, by go_num, HB21.out⟩
                      case measure => simp [intOf]; omega
                · have hkn2 : decide ((k : Int) < (n : Int)) = false := by simp; omega
                  go_wp2
                  go_roundw
                  case rel => exact ⟨j + 1, q3, by omega, by omega, by go_num, S_20.out, HL5.out⟩
                  case measure => simp [intOf]; omega
          · have e2 : decide ((j : Int) < 100) = false := by simp; omega
            go_wp2_with fail
            with_reducible refine (HK.out _).mono ?_
            rintro e w90 ⟨rfl, hb⟩
            have S_90 := Lib.hid (S_2.out.below hb)
            clear hb
            go_wp2
            go_ret
            exact ⟨rfl, S_90.out.bel⟩
        · have hnl : decide ((j : Int) < (m : Int)) = false := by simp; omega
          go_wp2_with fail
          with_reducible refine (HK.out _).mono ?_
          rintro e w90 ⟨rfl, hb⟩
          have S_90 := Lib.hid (S_2.out.below hb)
          clear hb
          go_wp2
          go_ret
          exact ⟨rfl, S_90.out.bel⟩

end Go.Proofs.Ytnajombhlmbopaa
