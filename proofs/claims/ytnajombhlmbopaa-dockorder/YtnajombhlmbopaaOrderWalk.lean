/-
  The walk of DockOrder.
-/
import Derived.Test.YtnajombhlmbopaaLawB
namespace Go.Proofs.Ytnajombhlmbopaa
open Go.Proofs Go.RowKit
set_option maxRecDepth 100000
set_option linter.unusedVariables false
set_option linter.unusedSimpArgs false

/-- Over the bookings that came out. -/
def OrR2 (L : Nat) (y : World) (v9 : Value) (wr : World) : Prop := ∃ k : Nat, k ≤ L ∧ v9 = .int .i64 (k : Int) ∧ Below y.heap.size y wr
def OrR3 (k : Nat) (y : World) (v10 : Value) (wr : World) : Prop := ∃ j : Nat, j ≤ k ∧ v10 = .int .i64 (j : Int) ∧ Below y.heap.size y wr
theorem HSort.lt {H : List Hd} (h : HSort H) {i j : Nat} (hj : j < H.length) (hij : i < j) : ahead (H[i]'(by omega)) H[j] ∧ (H[i]'(by omega)).o ≠ H[j].o := ⟨List.pairwise_iff_getElem.1 h.p i j (by omega) hj hij, List.pairwise_iff_getElem.1 h.u i j (by omega) hj hij⟩


set_option maxHeartbeats 16000000 in
theorem dockOrder_walk (A : Option Addr) (n c : Nat) (l : List Int) (B : Option Addr) (m d : Nat) (a : List Ac)  (w : World) (hG : Iin w A n l) (hn : n ≤ maxLen) (hIO : IntsOk l) (hA : Ain w B m a) (hm : m ≤ maxLen) (hAO : ActsOk a) 
    (KN : ∀ W, Calls Try.prog 9 #[] W fun e w' => e = .returned (.bool true) ∧ Below W.heap.size W w') :
    Calls Try.prog 7 #[.slice A n c, .slice B m d] w fun e w' => e = .returned (.bool true) ∧ Below w.heap.size w w' := by
  have HG := Lib.hid hG
  have HN := Lib.hid hG.1
  have HK := Lib.hid KN
  have HIO := Lib.hid hIO
  have HA := Lib.hid hA
  have HAO := Lib.hid hAO
  have HM := Lib.hid hA.1
  have hmm : (m : Int) ≤ 9223372036854775807 := by unfold maxLen at hm; omega
  have hnn0 : (n : Int) ≤ 9223372036854775807 := by unfold maxLen at hn; omega
  clear hG KN hn hIO hA hAO hm
  by_cases h200 : 200 < n
  · have e0 : decide ((200 : Int) < (n : Int)) = true := by simp; omega
    go_enter Try.func7, Try.ntmps7
    go_wp2_with fail
    with_reducible refine (HK.out _).mono ?_
    rintro e w2 ⟨rfl, hb⟩
    have HB := Lib.hid hb
    clear hb
    go_wp2
    go_ret
    exact ⟨rfl, HB.out⟩
  · have e0 : decide ((200 : Int) < (n : Int)) = false := by simp; omega
    go_enter Try.func7, Try.ntmps7
    go_wp2_with fail
    with_reducible refine (sw_new (Below.refl _ _) A n c l HG.out (by omega)).mono ?_
    rintro e w1 ⟨hb, ⟨h1, rfl⟩ | ⟨b, h1, rfl, hs, -⟩⟩
    · have HB := Lib.hid hb
      clear hb h1
      go_wp2_with fail
      with_reducible refine (HK.out _).mono ?_
      rintro e w2 ⟨rfl, hb⟩
      have HB2 := Lib.hid (HB.out.trans (hb.mono HB.out.size))
      clear hb
      go_wp2
      go_ret
      exact ⟨rfl, HB2.out⟩
    · have S_1 := Lib.hid hs
      have HNO := Lib.hid h1
      clear hb h1 hs
      go_wp2_with fail
      go_loopw [7] (fun i wr => AcR 100 w l a b i wr) (fun i _ => 101 - (intOf i).toNat)
      case atStart => exact ⟨0, ⟨l, []⟩, by omega, by omega, rfl, S_1.out, Nat.le_refl _⟩
      case round =>
        clear S_1
        obtain ⟨j, q, hj, hj2, rfl, hS, hH⟩ := hrel
        have S_2 := Lib.hid hS
        have HH := Lib.hid hH
        clear hS hH
        have hjm : j ≤ m := by have := HM.out; omega
        by_cases hlt : j < m
        · have hlt2 : (j : Int) < (m : Int) := by omega
          by_cases hq3 : j < 100
          · have e2 : decide ((j : Int) < 100) = true := by simp; omega
            have hlt3 : j < a.length := by have := HM.out; omega
            obtain ⟨b0, off, rfl, hbl, hcell⟩ := HA.out.2 (by omega)
            obtain ⟨xx, hxx⟩ : ∃ q, a[j] = q := ⟨_, rfl⟩
            have hcj := hcell j hlt3
            rw [hxx] at hcj
            have HXO := Lib.hid (HAO.out a[j] (List.getElem_mem hlt3))
            rw [hxx] at HXO
            have HCJ := Lib.hid (And.intro hcj hbl)
            clear hcell hxx hcj hbl
            obtain ⟨xt, xo, xf, xk⟩ := xx
            dsimp only at HXO HCJ
            obtain ⟨⟨x0, x1, x2, x3⟩, hbl⟩ := HCJ.out
            rw [← S_2.out.bel.cell (p := ⟨b0, off + j * 4, none⟩) hbl] at x0
            rw [← S_2.out.bel.cell (p := ⟨b0, off + j * 4 + 1, none⟩) hbl] at x1
            rw [← S_2.out.bel.cell (p := ⟨b0, off + j * 4 + 2, none⟩) hbl] at x2
            rw [← S_2.out.bel.cell (p := ⟨b0, off + j * 4 + 3, none⟩) hbl] at x3
            clear hbl
            go_wp2_with fail
            with_reducible refine (sw_act S_2.out xt xo xf xk HXO.out.2.1 HXO.out.2.2.1 HXO.out.2.2.2 (by have := HH.out; omega)).mono ?_
            rintro e w3 ⟨rfl, hs, hf⟩
            have S_3 := Lib.hid hs
            clear hs hf x0 x1 x2 x3
            have HH2 := Lib.hid (actS_len q ⟨xt, xo, xf, xk⟩).1
            obtain ⟨q3, hq3'⟩ : ∃ q3, actS q ⟨xt, xo, xf, xk⟩ = q3 := ⟨_, rfl⟩
            rw [hq3'] at S_3 HH2
            clear hq3' S_2
            have HL3 : Hid (q3.H.length ≤ j + 1) := Lib.hid (by have := HH.out; have := HH2.out; omega)
            clear HH HH2
            go_wp2_with fail
            with_reducible refine (sw_bks S_3.out (by have := HL3.out; omega)).mono ?_
            rintro e w4 ⟨bv, rfl, hr, hs, hf⟩
            have S_4 := Lib.hid hs
            have RH_4 := Lib.hid hr
            clear hs hr hf S_3
            obtain ⟨Ar, cr, rfl, -, -⟩ := RH_4.out.hin
            have hlen : (q3.H.length : Int) ≤ 1000 := by have := HL3.out; omega
            go_wp2_with fail
            go_loopw [9] (fun v9 wr => OrR2 q3.H.length w4 v9 wr) (fun i _ => q3.H.length - (intOf i).toNat)
            case atStart => exact ⟨0, by omega, rfl, Below.refl _ _⟩
            case round =>
              obtain ⟨k, hk, rfl, hB⟩ := hrel
              have HB := Lib.hid hB
              have RH_5 := Lib.hid (RH_4.out.below hB)
              clear hB
              by_cases hkl : k < q3.H.length
              · have hkl2 : (k : Int) < (q3.H.length : Int) := by omega
                obtain ⟨g, o, rfl, hgl, y0, y1, y2⟩ := RH_5.out.at k hkl
                have HLT := Lib.hid (fun (i : Nat) (hi : i < k) => S_4.out.inv.hs.lt hkl hi)
                have HHH := Lib.hid (S_4.out.inv.hh q3.H[k] (List.getElem_mem hkl))
                obtain ⟨y, hy⟩ : ∃ y, q3.H[k] = y := ⟨_, rfl⟩
                have HY := Lib.hid hy
                rw [hy] at y0 y1 y2 HHH
                clear hy
                have f1 : decide ((y.d : Int) < 0) = false := by simp
                have f2 : decide ((n : Int) ≤ (y.d : Int)) = false := by have := HHH.out.2.2.2.1; have := HN.out; simp; omega
                have f5 : decide (n ≤ y.d) = false := by have := HHH.out.2.2.2.1; have := HN.out; simp; omega
                have f3 : decide (y.k < 1) = false := by have := HHH.out.1; simp; omega
                have f4 : (((y.o : Int) == 0) : Bool) = false := beq_eq_false_iff_ne.2 (by have := HHH.out.2.1; omega)
                go_wp2_with fail
                clear f1 f2 f3 f4 f5 y0 y1 y2
                go_loopw [10] (fun v10 wq => OrR3 k wr v10 wq) (fun i _ => k - (intOf i).toNat)
                case atStart => exact ⟨0, by omega, rfl, Below.refl _ _⟩
                case round =>
                  obtain ⟨p, hp, rfl, hB⟩ := hrel
                  have HB6 := Lib.hid hB
                  have RH_6 := Lib.hid (RH_5.out.below hB)
                  clear hB
                  by_cases hpk : p < k
                  · have hpk2 : (p : Int) < (k : Int) := by omega
                    have hpl : p < q3.H.length := by omega
                    have hpl2 : (p : Int) < (q3.H.length : Int) := by omega
                    obtain ⟨g2, o2, eg, -, y0, y1, y2⟩ := RH_6.out.at k hkl
                    injection eg with eg
                    injection eg with eg1 eg2
                    subst eg1 eg2
                    obtain ⟨g2, o2, eg, -, z0, z1, z2⟩ := RH_6.out.at p hpl
                    injection eg with eg
                    injection eg with eg1 eg2
                    subst eg1 eg2
                    obtain ⟨ha, hne⟩ := HLT.out p hpk
                    rw [HY.out] at y0 y1 y2 ha hne
                    obtain ⟨z, hz⟩ : ∃ z, q3.H[p] = z := ⟨_, rfl⟩
                    rw [hz] at z0 z1 z2 ha hne
                    clear hz y2 z2
                    have f1 : (((z.o : Int) == (y.o : Int)) : Bool) = false := beq_eq_false_iff_ne.2 (by omega)
                    have f2 : decide ((y.d : Int) < (z.d : Int)) = false := by unfold ahead at ha; simp; omega
                    have f1b : (z.o == y.o) = false := by simpa using hne
                    have f2b : decide (y.d < z.d) = false := by unfold ahead at ha; simp; omega
                    by_cases hdd : z.d = y.d
                    · have f3 : (((z.d : Int) == (y.d : Int)) : Bool) = true := by simp; omega
                      have f3b : (z.d == y.d) = true := by simpa using hdd
                      have f4 : decide ((y.o : Int) < (z.o : Int)) = false := by unfold ahead at ha; simp; omega
                      have f4b : decide (y.o < z.o) = false := by unfold ahead at ha; simp; omega
                      clear ha hne hdd
                      go_wp2_with fail
                      go_quiet (fail)
                      clear f1 f2 f3 f1b f2b f3b y0 y1 z0 z1
                      go_wp2
                      go_roundw
                      case rel => exact ⟨p + 1, by omega, by go_num, below_drewN HB6.out _⟩
                      case measure => simp [intOf]; omega
                    · have f3 : (((z.d : Int) == (y.d : Int)) : Bool) = false := beq_eq_false_iff_ne.2 (by omega)
                      have f3b : (z.d == y.d) = false := by simpa using hdd
                      clear ha hne hdd
                      go_wp2_with fail
                      go_quiet (fail)
                      clear f1 f2 f3 f1b f2b f3b y0 y1 z0 z1
                      go_wp2
                      go_roundw
                      case rel => exact ⟨p + 1, by omega, by go_num, below_drewN HB6.out _⟩
                      case measure => simp [intOf]; omega
                  · have hpk2 : decide ((p : Int) < (k : Int)) = false := by simp; omega
                    go_wp2
                    go_roundw
                    case rel => exact ⟨k + 1, by omega, by go_num, HB.out.trans (HB6.out.mono HB.out.size)⟩
                    case measure => simp [intOf]; omega
              · have hkl2 : decide ((k : Int) < (q3.H.length : Int)) = false := by simp; omega
                go_wp2
                go_roundw
                case rel => exact ⟨j + 1, q3, by omega, by omega, by go_num, S_4.out.below HB.out, HL3.out⟩
                case measure => simp [intOf]; omega
          · have e2 : decide ((j : Int) < 100) = false := by simp; omega
            go_wp2_with fail
            with_reducible refine (HK.out _).mono ?_
            rintro e w90 ⟨rfl, hb⟩
            have S_90 := Lib.hid (S_2.out.below hb)
            clear hb
            go_wp2
            go_ret
            exact ⟨rfl, S_90.out.bel⟩
        · have hnl : decide ((j : Int) < (m : Int)) = false := by simp; omega
          go_wp2_with fail
          with_reducible refine (HK.out _).mono ?_
          rintro e w90 ⟨rfl, hb⟩
          have S_90 := Lib.hid (S_2.out.below hb)
          clear hb
          go_wp2
          go_ret
          exact ⟨rfl, S_90.out.bel⟩

end Go.Proofs.Ytnajombhlmbopaa
