/-
  The walk of EpochsMeets, out of the contracts.
-/
import Derived.Test.YtngnfgnaagbpjaaKnown
import Derived.Test.YtngnfgnaagbpjaaShared
import Derived.Test.YtngnfgnaagbpjaaIn
namespace Go.Proofs.Ytngnfgnaagbpjaa
open Go.RowKit
set_option linter.unusedVariables false

def MtR (w : World) (m lb F : Nat) (u : Tbl) (x t i : Value) (wr : World) : Prop :=
  ∃ (k y : Nat) (A : Option Addr) (cx : Nat), k ≤ m + 2 ∧ i = .int .i64 k ∧ x = .int .u64 y ∧ t = .slice A (cL u y) cx ∧ Tab wr A (cL u y) (cutS u y) ∧ (A = none → cx = 0) ∧ cL u y ≤ cx ∧ F ≤ y ∧ y ≤ lb ∧ (y = F ∨ cL u y + k ≤ m) ∧ Below w.heap.size w wr

set_option maxRecDepth 100000 in
set_option maxHeartbeats 8000000 in
theorem epochsMeets_walk (a : Option Addr) (n cap : Nat) (t : Tbl) (l : Nat) (b : Option Addr) (m dap : Nat) (u : Tbl) (l2 : Nat) (w : World) (hI : InTab w a n cap t) (hl : l < 18446744073709551616) (hI2 : InTab w b m dap u) (hl2 : l2 < 18446744073709551616) :
    Calls Try.prog 8 #[.slice a n cap, .int .u64 (l : Int), .slice b m dap, .int .u64 (l2 : Int)] w fun x w' => x = .returned (.bool true) ∧ Below w.heap.size w w' := by
  obtain ⟨hT, hnc, hcm, hA⟩ := hI
  obtain ⟨hT2, hnc2, hcm2, hA2⟩ := hI2
  have HT := Lib.hid hT
  have HU := Lib.hid hT2
  have HCB := Lib.hid hA2
  have HLA := Lib.hid hT.1
  have HLB := Lib.hid hT2.1
  have B0 := Lib.hid (Below.refl w.heap.size w)
  have C0 := Lib.hid (many_any a b n m cap dap w)
  clear hA hA2
  by_cases hn : 500 < n ∨ 500 < m
  · rw [show manyB n m = true from by unfold manyB; rw [decide_eq_true_iff]; omega] at C0
    clear hT hT2
    go_enter Try.func8, Try.ntmps8
    go_wp2_with fail
    with_reducible refine (C0.out).mono ?_
    rintro x w1 ⟨rfl, rfl⟩
    go_wp2_with fail
    with_reducible refine (known_any _).mono ?_
    rintro x w2 ⟨rfl, hb⟩
    have B2 := Lib.hid (B0.out.trans (hb.mono B0.out.size))
    clear hb
    go_wp2
    go_ret
    exact ⟨rfl, B2.out⟩
  · rw [show manyB n m = false from by unfold manyB; rw [decide_eq_false_iff_not]; omega] at C0
    have hn1 : n ≤ 500 := by omega
    have hm1 : m ≤ 500 := by omega
    clear hn
    have C1 := Lib.hid (check_any a n cap t w hT (small_len _ (by omega)))
    have C2 := Lib.hid (fun W (h : Tab W b m u) => check_any b m dap u W h (small_len _ (by omega)))
    clear hT hT2
    rcases chk_cases t with ⟨hM, hc⟩ | ⟨hM, hc⟩
    · rw [hc] at C1
      rcases chk_cases u with ⟨hM2, hd⟩ | ⟨hM2, hd⟩
      · rw [hd] at C2
        have HM := Lib.hid hM
        have HM2 := Lib.hid hM2
        have C3 := Lib.hid (fun W (h : Tab W a n t) (k : Tab W b m u) => shared_any a b n m cap dap t u W h k (by omega) (by omega))
        have C4 := Lib.hid (fun W (h : Tab W a n t) (k : Tab W b m u) => fork_any a b n m cap dap l l2 t u W h k (by omega) (by omega))
        have C5 := Lib.hid (fun W (k : Tab W b m u) => cut_any b m dap l2 u W k HCB.out hnc2 (by omega))
        have C6 := Lib.hid (fun e W (h : Tab W a n t) => end_any a n cap l e t W h (by omega) (by omega))
        have C7 := Lib.hid (fun y W (h : Tab W a n t) => at_any a n cap y t W h (by omega))
        clear hM hM2 hc hd
        go_enter Try.func8, Try.ntmps8
        go_wp2_with fail
        with_reducible refine (C0.out).mono ?_
        rintro x w1 ⟨rfl, rfl⟩
        go_wp2_with fail
        with_reducible refine (C1.out).mono ?_
        rintro x w2 ⟨rfl, hb⟩
        have B2 := Lib.hid (B0.out.trans (hb.mono B0.out.size))
        clear hb
        rw [show ((0 : Nat) : Int) = 0 from rfl]
        go_wp2_with fail
        with_reducible refine (C2.out _ (HU.out.below B2.out)).mono ?_
        rintro x w3 ⟨rfl, hb⟩
        have B3 := Lib.hid (B2.out.trans (hb.mono B2.out.size))
        clear hb
        rw [show ((0 : Nat) : Int) = 0 from rfl]
        clear C0 C1 C2
        by_cases hn0 : 0 < n
        · have g1 : decide ((0 : Int) < (n : Int)) = true := by rw [decide_eq_true_iff]; omega
          have g2 : decide (0 < n) = true := by rw [decide_eq_true_iff]; omega
          have g3 : (((n : Nat) : Int) == 0) = false := by rw [beq_eq_false_iff_ne]; omega
          obtain ⟨b1, o1, rfl, hat⟩ := (HT.out.below B3.out).2.2 (by omega)
          obtain ⟨_, d1⟩ := hat 0 (by omega)
          rw [Nat.zero_mul, Nat.add_zero] at d1
          obtain ⟨s1, hs1⟩ : ∃ x, ls t 0 = x := ⟨_, rfl⟩
          rw [hs1] at d1
          have Hs1 := Lib.hid hs1
          clear hat hs1
          by_cases hs1 : 1 < s1
          · have g4 : decide ((1 : Int) < (s1 : Int)) = true := by rw [decide_eq_true_iff]; omega
            have g5 : decide (1 < s1) = true := by rw [decide_eq_true_iff]; omega
            go_wp2_with fail
            with_reducible refine (known_any _).mono ?_
            rintro x w4 ⟨rfl, hb⟩
            have B4 := Lib.hid (B3.out.trans (hb.mono B3.out.size))
            clear hb
            go_wp2
            go_ret
            exact ⟨rfl, B4.out⟩
          · have g6 : decide ((1 : Int) < (s1 : Int)) = false := by rw [decide_eq_false_iff_not]; omega
            have g7 : decide (1 < s1) = false := by rw [decide_eq_false_iff_not]; omega
            have HBA : Hid (Beg t l) := Lib.hid ⟨fun _ => by rw [Hs1.out]; omega, fun q => by rw [HLA.out] at q; omega⟩
            by_cases hm0 : 0 < m
            · have g8 : decide ((0 : Int) < (m : Int)) = true := by rw [decide_eq_true_iff]; omega
              have g9 : decide (0 < m) = true := by rw [decide_eq_true_iff]; omega
              have g10 : (((m : Nat) : Int) == 0) = false := by rw [beq_eq_false_iff_ne]; omega
              obtain ⟨b2, o2, rfl, hat⟩ := (HU.out.below B3.out).2.2 (by omega)
              obtain ⟨_, f1⟩ := hat 0 (by omega)
              rw [Nat.zero_mul, Nat.add_zero] at f1
              obtain ⟨s2, hs2⟩ : ∃ x, ls u 0 = x := ⟨_, rfl⟩
              rw [hs2] at f1
              have Hs2 := Lib.hid hs2
              clear hat hs2
              by_cases hs2 : 1 < s2
              · have g11 : decide ((1 : Int) < (s2 : Int)) = true := by rw [decide_eq_true_iff]; omega
                have g12 : decide (1 < s2) = true := by rw [decide_eq_true_iff]; omega
                go_wp2_with fail
                with_reducible refine (known_any _).mono ?_
                rintro x w4 ⟨rfl, hb⟩
                have B4 := Lib.hid (B3.out.trans (hb.mono B3.out.size))
                clear hb
                go_wp2
                go_ret
                exact ⟨rfl, B4.out⟩
              · have g13 : decide ((1 : Int) < (s2 : Int)) = false := by rw [decide_eq_false_iff_not]; omega
                have g14 : decide (1 < s2) = false := by rw [decide_eq_false_iff_not]; omega
                have HBB : Hid (Beg u l2) := Lib.hid ⟨fun _ => by rw [Hs2.out]; omega, fun q => by rw [HLB.out] at q; omega⟩
                go_wp2_with fail
                with_reducible refine (C3.out _ (HT.out.below B3.out) (HU.out.below B3.out)).mono ?_
                rintro x w10 ⟨r, rfl, hr, hb⟩
                have B10 := Lib.hid (B3.out.trans (hb.mono B3.out.size))
                have HR := Lib.hid hr
                clear hb hr C3
                cases r
                · clear HR
                  go_wp2_with fail
                  with_reducible refine (known_any _).mono ?_
                  rintro x w11 ⟨rfl, hb⟩
                  have B11 := Lib.hid (B10.out.trans (hb.mono B10.out.size))
                  clear hb
                  go_wp2
                  go_ret
                  exact ⟨rfl, B11.out⟩
                · have HS := Lib.hid (HR.out.1 rfl)
                  clear HR
                  have HF := Lib.hid (fork_is HM.out HM2.out l l2)
                  obtain ⟨q, hq⟩ : ∃ q, forkS t l u l2 = q := ⟨_, rfl⟩
                  rw [hq] at C4 HF
                  have hq2 := HF.out
                  have hql : q ≤ l2 := by omega
                  clear hq hq2
                  go_wp2_with fail
                  with_reducible refine (C4.out _ (HT.out.below B10.out) (HU.out.below B10.out)).mono ?_
                  rintro x w11 ⟨rfl, hb⟩
                  have B11 := Lib.hid (B10.out.trans (hb.mono B10.out.size))
                  clear hb C4
                  go_wp2_with fail
                  with_reducible refine (C5.out _ (HU.out.below B11.out)).mono ?_
                  rintro x w12 ⟨v, rfl, ho, hb⟩
                  have B12 := Lib.hid (B11.out.trans (hb.mono B11.out.size))
                  obtain ⟨A, cx, rfl, hX, hcx, _, hXA⟩ := ho.slice
                  rw [cut_length HM2.out] at hX hcx ⊢
                  have HX := Lib.hid hX
                  have HXA := Lib.hid hXA
                  have HCX := Lib.hid hcx
                  clear hb ho hX hXA hcx C5
                  have hcm3 := cL_le u l2
                  rw [HLB.out] at hcm3
                  have HC3 := Lib.hid hcm3
                  clear hcm3
                  obtain ⟨c0, hc0⟩ : ∃ c0, cL u l2 = c0 := ⟨_, rfl⟩
                  have HC0 := Lib.hid hc0
                  rw [hc0]
                  clear hc0
                  go_wp2_with fail
                  go_loopw [10, 11, 12] (MtR w m l2 q u) (fun _ _ i _ => m + 2 - (intOf i).toNat)
                  case atStart => exact ⟨0, l2, A, cx, by omega, rfl, rfl, by rw [HC0.out], HX.out, HXA.out, HCX.out, hql, Nat.le_refl _, .inr (by have := HC3.out; omega), B12.out⟩
                  case round =>
                    obtain ⟨k, y, A', cx', hk, rfl, rfl, rfl, hX', hXA', hcx', hqy, hyl, hor, hbel⟩ := hrel
                    have HX' := Lib.hid hX'
                    have HXA' := Lib.hid hXA'
                    have HCX' := Lib.hid hcx'
                    have HOR := Lib.hid hor
                    have HBE := Lib.hid hbel
                    clear hX' hXA' hcx' hor hbel
                    have hc3 := cL_le u y
                    rw [HLB.out] at hc3
                    by_cases hlt : k < m + 2
                    · obtain ⟨e, he⟩ : ∃ e, atS u y = e := ⟨_, rfl⟩
                      obtain ⟨E, hE⟩ : ∃ E, endS t l e = E := ⟨_, rfl⟩
                      obtain ⟨f, hf⟩ : ∃ f, atS t E = f := ⟨_, rfl⟩
                      obtain ⟨O, hO⟩ : ∃ O, endS u y f = O := ⟨_, rfl⟩
                      have hst := step_it HM.out HM2.out (la := l) (lb := l2) (last := y) (F := q) (com_is t u) HS.out (by omega) (by omega) HBA.out (beg_less HBB.out hyl) HF.out hqy hyl
                      rw [show nextS t l u y = min y (min E O) from by unfold nextS; rw [he, hE, hf, hO]] at hst
                      have HST := Lib.hid hst
                      have d1 := fun W (h : Tab W A' (cL u y) (cutS u y)) => at_any A' (cL u y) cx' y (cutS u y) W h (by omega)
                      rw [cut_at HM2.out (Nat.le_refl y), he] at d1
                      have d2 := C6.out e
                      rw [hE] at d2
                      have d3 := C7.out E
                      rw [hf] at d3
                      have d4 := fun W (h : Tab W A' (cL u y) (cutS u y)) => end_any A' (cL u y) cx' y f (cutS u y) W h (by omega) (by omega)
                      rw [cut_end HM2.out y f, hO] at d4
                      have d5 := fun z (hz : z ≤ y) W (h : Tab W A' (cL u y) (cutS u y)) => cut_any A' (cL u y) cx' z (cutS u y) W h HXA'.out HCX'.out (by omega)
                      have D1 := Lib.hid d1
                      have D2 := Lib.hid d2
                      have D3 := Lib.hid d3
                      have D4 := Lib.hid d4
                      have D5 := Lib.hid d5
                      clear d1 d2 d3 d4 d5 he hE hf hO hst
                      have HCC := Lib.hid (fun z (hz : z ≤ y) => cut_cut HM2.out hz)
                      have HCLN := Lib.hid (fun z => cut_length HM2.out z)
                      obtain ⟨c, hcc⟩ : ∃ c, cL u y = c := ⟨_, rfl⟩
                      rw [hcc] at HX' D1 D4 D5 HOR HST ⊢
                      have HCE := Lib.hid hcc
                      clear hcc
                      have g15 : decide ((k : Int) < (m : Int) + 2) = true := by rw [decide_eq_true_iff]; omega
                      have g16 : decide (k < m + 2) = true := by rw [decide_eq_true_iff]; omega
                      go_wp2_with fail
                      with_reducible refine (D1.out _ HX'.out).mono ?_
                      rintro x w13 ⟨rfl, hb⟩
                      have HX13 := Lib.hid (HX'.out.below hb)
                      have B13 := Lib.hid (HBE.out.trans (hb.mono HBE.out.size))
                      clear hb
                      go_wp2_with fail
                      with_reducible refine (D2.out _ (HT.out.below B13.out)).mono ?_
                      rintro x w14 ⟨rfl, hb⟩
                      have HX14 := Lib.hid (HX13.out.below hb)
                      have B14 := Lib.hid (B13.out.trans (hb.mono B13.out.size))
                      clear hb
                      go_wp2_with fail
                      with_reducible refine (D3.out _ (HT.out.below B14.out)).mono ?_
                      rintro x w15 ⟨rfl, hb⟩
                      have HX15 := Lib.hid (HX14.out.below hb)
                      have B15 := Lib.hid (B14.out.trans (hb.mono B14.out.size))
                      clear hb
                      go_wp2_with fail
                      with_reducible refine (D4.out _ HX15.out).mono ?_
                      rintro x w16 ⟨rfl, hb⟩
                      have HX16 := Lib.hid (HX15.out.below hb)
                      have B16 := Lib.hid (B15.out.trans (hb.mono B15.out.size))
                      clear hb
                      by_cases h1 : O < E
                      · by_cases h2 : O < y
                        · have g17 : (((O : Nat) : Int) == ((y : Nat) : Int)) = false := by rw [beq_eq_false_iff_ne]; omega
                          have DD := Lib.hid (D5.out O (by omega) _ HX16.out)
                          rw [HCC.out O (by omega)] at DD
                          go_wp2_with fail
                          with_reducible refine DD.out.mono ?_
                          rintro x w17 ⟨v, rfl, ho, hb⟩
                          have B17 := Lib.hid (B16.out.trans (hb.mono B16.out.size))
                          obtain ⟨A7, c7, rfl, hX7, hc7, _, hA7⟩ := ho.slice
                          rw [HCLN.out O] at hX7 hc7 ⊢
                          have HX7 := Lib.hid hX7
                          have HA7 := Lib.hid hA7
                          have HC7 := Lib.hid hc7
                          clear hb ho hX7 hA7 hc7 DD
                          have hst := HST.out
                          rw [show min y (min E O) = O from by omega] at hst
                          obtain ⟨s1, s2⟩ := hst
                          have hor := HOR.out
                          have HOR7 : Hid (O = q ∨ cL u O + (k + 1) ≤ m) := Lib.hid (by rcases s2 with s2 | s2; exact .inl s2; rcases hor with hor | hor; omega; right; omega)
                          clear hor s2
                          obtain ⟨c8, hc8⟩ : ∃ c8, cL u O = c8 := ⟨_, rfl⟩
                          rw [hc8]
                          have HC8 := Lib.hid hc8
                          clear hc8
                          go_wp2
                          go_roundw
                          case rel => exact ⟨k + 1, O, A7, c7, by omega, by go_num, rfl, by rw [HC8.out], HX7.out, HA7.out, HC7.out, s1, by omega, HOR7.out, B17.out⟩
                          case measure => simp [intOf]; omega
                        · have hst := HST.out
                          rw [show min y (min E O) = y from by omega, HCE.out] at hst
                          obtain ⟨s1, s2⟩ := hst
                          have hyq : y = q := by rcases s2 with s2 | s2; exact s2; omega
                          have g18 : (((y : Nat) : Int) == ((q : Nat) : Int)) = true := by rw [beq_iff_eq]; omega
                          have g19 : (((y : Nat) : Int) == ((y : Nat) : Int)) = true := by simp
                          clear hyq s1 s2
                          go_wp2_with fail
                          with_reducible refine (known_any _).mono ?_
                          rintro x w17 ⟨rfl, hb⟩
                          have B17 := Lib.hid (B16.out.trans (hb.mono B16.out.size))
                          clear hb
                          go_wp2
                          go_ret
                          exact ⟨rfl, B17.out⟩
                      · by_cases h2 : E < y
                        · have g20 : (((E : Nat) : Int) == ((y : Nat) : Int)) = false := by rw [beq_eq_false_iff_ne]; omega
                          have DD := Lib.hid (D5.out E (by omega) _ HX16.out)
                          rw [HCC.out E (by omega)] at DD
                          go_wp2_with fail
                          with_reducible refine DD.out.mono ?_
                          rintro x w17 ⟨v, rfl, ho, hb⟩
                          have B17 := Lib.hid (B16.out.trans (hb.mono B16.out.size))
                          obtain ⟨A7, c7, rfl, hX7, hc7, _, hA7⟩ := ho.slice
                          rw [HCLN.out E] at hX7 hc7 ⊢
                          have HX7 := Lib.hid hX7
                          have HA7 := Lib.hid hA7
                          have HC7 := Lib.hid hc7
                          clear hb ho hX7 hA7 hc7 DD
                          have hst := HST.out
                          rw [show min y (min E O) = E from by omega] at hst
                          obtain ⟨s1, s2⟩ := hst
                          have hor := HOR.out
                          have HOR7 : Hid (E = q ∨ cL u E + (k + 1) ≤ m) := Lib.hid (by rcases s2 with s2 | s2; exact .inl s2; rcases hor with hor | hor; omega; right; omega)
                          clear hor s2
                          obtain ⟨c8, hc8⟩ : ∃ c8, cL u E = c8 := ⟨_, rfl⟩
                          rw [hc8]
                          have HC8 := Lib.hid hc8
                          clear hc8
                          go_wp2
                          go_roundw
                          case rel => exact ⟨k + 1, E, A7, c7, by omega, by go_num, rfl, by rw [HC8.out], HX7.out, HA7.out, HC7.out, s1, by omega, HOR7.out, B17.out⟩
                          case measure => simp [intOf]; omega
                        · have hst := HST.out
                          rw [show min y (min E O) = y from by omega, HCE.out] at hst
                          obtain ⟨s1, s2⟩ := hst
                          have hyq : y = q := by rcases s2 with s2 | s2; exact s2; omega
                          have g21 : (((y : Nat) : Int) == ((q : Nat) : Int)) = true := by rw [beq_iff_eq]; omega
                          have g22 : (((y : Nat) : Int) == ((y : Nat) : Int)) = true := by simp
                          clear hyq s1 s2
                          go_wp2_with fail
                          with_reducible refine (known_any _).mono ?_
                          rintro x w17 ⟨rfl, hb⟩
                          have B17 := Lib.hid (B16.out.trans (hb.mono B16.out.size))
                          clear hb
                          go_wp2
                          go_ret
                          exact ⟨rfl, B17.out⟩
                    · have g23 : decide ((k : Int) < (m : Int) + 2) = false := by rw [decide_eq_false_iff_not]; omega
                      have g24 : decide (k < m + 2) = false := by rw [decide_eq_false_iff_not]; omega
                      have hor := HOR.out
                      have hyq : y = q := by omega
                      have g25 : (((y : Nat) : Int) == ((q : Nat) : Int)) = true := by rw [beq_iff_eq]; omega
                      clear hyq hor
                      obtain ⟨c, hcc⟩ : ∃ c, cL u y = c := ⟨_, rfl⟩
                      rw [hcc] at HX' ⊢
                      clear hcc
                      go_wp2_with fail
                      with_reducible refine (known_any _).mono ?_
                      rintro x w13 ⟨rfl, hb⟩
                      have B13 := Lib.hid (HBE.out.trans (hb.mono HBE.out.size))
                      clear hb
                      go_wp2
                      go_ret
                      exact ⟨rfl, B13.out⟩
            · have g26 : decide ((0 : Int) < (m : Int)) = false := by rw [decide_eq_false_iff_not]; omega
              have g27 : decide (0 < m) = false := by rw [decide_eq_false_iff_not]; omega
              have g28 : (((m : Nat) : Int) == 0) = true := by rw [beq_iff_eq]; omega
              by_cases hl0 : 0 < l2
              · have g29 : decide ((0 : Int) < (l2 : Int)) = true := by rw [decide_eq_true_iff]; omega
                have g30 : decide (0 < l2) = true := by rw [decide_eq_true_iff]; omega
                go_wp2_with fail
                with_reducible refine (known_any _).mono ?_
                rintro x w4 ⟨rfl, hb⟩
                have B4 := Lib.hid (B3.out.trans (hb.mono B3.out.size))
                clear hb
                go_wp2
                go_ret
                exact ⟨rfl, B4.out⟩
              · have g31 : decide ((0 : Int) < (l2 : Int)) = false := by rw [decide_eq_false_iff_not]; omega
                have g32 : decide (0 < l2) = false := by rw [decide_eq_false_iff_not]; omega
                have HBB : Hid (Beg u l2) := Lib.hid ⟨fun q => by rw [HLB.out] at q; omega, fun _ => by omega⟩
                go_wp2_with fail
                with_reducible refine (C3.out _ (HT.out.below B3.out) (HU.out.below B3.out)).mono ?_
                rintro x w10 ⟨r, rfl, hr, hb⟩
                have B10 := Lib.hid (B3.out.trans (hb.mono B3.out.size))
                have HR := Lib.hid hr
                clear hb hr C3
                cases r
                · clear HR
                  go_wp2_with fail
                  with_reducible refine (known_any _).mono ?_
                  rintro x w11 ⟨rfl, hb⟩
                  have B11 := Lib.hid (B10.out.trans (hb.mono B10.out.size))
                  clear hb
                  go_wp2
                  go_ret
                  exact ⟨rfl, B11.out⟩
                · have HS := Lib.hid (HR.out.1 rfl)
                  clear HR
                  have HF := Lib.hid (fork_is HM.out HM2.out l l2)
                  obtain ⟨q, hq⟩ : ∃ q, forkS t l u l2 = q := ⟨_, rfl⟩
                  rw [hq] at C4 HF
                  have hq2 := HF.out
                  have hql : q ≤ l2 := by omega
                  clear hq hq2
                  go_wp2_with fail
                  with_reducible refine (C4.out _ (HT.out.below B10.out) (HU.out.below B10.out)).mono ?_
                  rintro x w11 ⟨rfl, hb⟩
                  have B11 := Lib.hid (B10.out.trans (hb.mono B10.out.size))
                  clear hb C4
                  go_wp2_with fail
                  with_reducible refine (C5.out _ (HU.out.below B11.out)).mono ?_
                  rintro x w12 ⟨v, rfl, ho, hb⟩
                  have B12 := Lib.hid (B11.out.trans (hb.mono B11.out.size))
                  obtain ⟨A, cx, rfl, hX, hcx, _, hXA⟩ := ho.slice
                  rw [cut_length HM2.out] at hX hcx ⊢
                  have HX := Lib.hid hX
                  have HXA := Lib.hid hXA
                  have HCX := Lib.hid hcx
                  clear hb ho hX hXA hcx C5
                  have hcm3 := cL_le u l2
                  rw [HLB.out] at hcm3
                  have HC3 := Lib.hid hcm3
                  clear hcm3
                  obtain ⟨c0, hc0⟩ : ∃ c0, cL u l2 = c0 := ⟨_, rfl⟩
                  have HC0 := Lib.hid hc0
                  rw [hc0]
                  clear hc0
                  go_wp2_with fail
                  go_loopw [10, 11, 12] (MtR w m l2 q u) (fun _ _ i _ => m + 2 - (intOf i).toNat)
                  case atStart => exact ⟨0, l2, A, cx, by omega, rfl, rfl, by rw [HC0.out], HX.out, HXA.out, HCX.out, hql, Nat.le_refl _, .inr (by have := HC3.out; omega), B12.out⟩
                  case round =>
                    obtain ⟨k, y, A', cx', hk, rfl, rfl, rfl, hX', hXA', hcx', hqy, hyl, hor, hbel⟩ := hrel
                    have HX' := Lib.hid hX'
                    have HXA' := Lib.hid hXA'
                    have HCX' := Lib.hid hcx'
                    have HOR := Lib.hid hor
                    have HBE := Lib.hid hbel
                    clear hX' hXA' hcx' hor hbel
                    have hc3 := cL_le u y
                    rw [HLB.out] at hc3
                    by_cases hlt : k < m + 2
                    · obtain ⟨e, he⟩ : ∃ e, atS u y = e := ⟨_, rfl⟩
                      obtain ⟨E, hE⟩ : ∃ E, endS t l e = E := ⟨_, rfl⟩
                      obtain ⟨f, hf⟩ : ∃ f, atS t E = f := ⟨_, rfl⟩
                      obtain ⟨O, hO⟩ : ∃ O, endS u y f = O := ⟨_, rfl⟩
                      have hst := step_it HM.out HM2.out (la := l) (lb := l2) (last := y) (F := q) (com_is t u) HS.out (by omega) (by omega) HBA.out (beg_less HBB.out hyl) HF.out hqy hyl
                      rw [show nextS t l u y = min y (min E O) from by unfold nextS; rw [he, hE, hf, hO]] at hst
                      have HST := Lib.hid hst
                      have d1 := fun W (h : Tab W A' (cL u y) (cutS u y)) => at_any A' (cL u y) cx' y (cutS u y) W h (by omega)
                      rw [cut_at HM2.out (Nat.le_refl y), he] at d1
                      have d2 := C6.out e
                      rw [hE] at d2
                      have d3 := C7.out E
                      rw [hf] at d3
                      have d4 := fun W (h : Tab W A' (cL u y) (cutS u y)) => end_any A' (cL u y) cx' y f (cutS u y) W h (by omega) (by omega)
                      rw [cut_end HM2.out y f, hO] at d4
                      have d5 := fun z (hz : z ≤ y) W (h : Tab W A' (cL u y) (cutS u y)) => cut_any A' (cL u y) cx' z (cutS u y) W h HXA'.out HCX'.out (by omega)
                      have D1 := Lib.hid d1
                      have D2 := Lib.hid d2
                      have D3 := Lib.hid d3
                      have D4 := Lib.hid d4
                      have D5 := Lib.hid d5
                      clear d1 d2 d3 d4 d5 he hE hf hO hst
                      have HCC := Lib.hid (fun z (hz : z ≤ y) => cut_cut HM2.out hz)
                      have HCLN := Lib.hid (fun z => cut_length HM2.out z)
                      obtain ⟨c, hcc⟩ : ∃ c, cL u y = c := ⟨_, rfl⟩
                      rw [hcc] at HX' D1 D4 D5 HOR HST ⊢
                      have HCE := Lib.hid hcc
                      clear hcc
                      have g33 : decide ((k : Int) < (m : Int) + 2) = true := by rw [decide_eq_true_iff]; omega
                      have g34 : decide (k < m + 2) = true := by rw [decide_eq_true_iff]; omega
                      go_wp2_with fail
                      with_reducible refine (D1.out _ HX'.out).mono ?_
                      rintro x w13 ⟨rfl, hb⟩
                      have HX13 := Lib.hid (HX'.out.below hb)
                      have B13 := Lib.hid (HBE.out.trans (hb.mono HBE.out.size))
                      clear hb
                      go_wp2_with fail
                      with_reducible refine (D2.out _ (HT.out.below B13.out)).mono ?_
                      rintro x w14 ⟨rfl, hb⟩
                      have HX14 := Lib.hid (HX13.out.below hb)
                      have B14 := Lib.hid (B13.out.trans (hb.mono B13.out.size))
                      clear hb
                      go_wp2_with fail
                      with_reducible refine (D3.out _ (HT.out.below B14.out)).mono ?_
                      rintro x w15 ⟨rfl, hb⟩
                      have HX15 := Lib.hid (HX14.out.below hb)
                      have B15 := Lib.hid (B14.out.trans (hb.mono B14.out.size))
                      clear hb
                      go_wp2_with fail
                      with_reducible refine (D4.out _ HX15.out).mono ?_
                      rintro x w16 ⟨rfl, hb⟩
                      have HX16 := Lib.hid (HX15.out.below hb)
                      have B16 := Lib.hid (B15.out.trans (hb.mono B15.out.size))
                      clear hb
                      by_cases h1 : O < E
                      · by_cases h2 : O < y
                        · have g35 : (((O : Nat) : Int) == ((y : Nat) : Int)) = false := by rw [beq_eq_false_iff_ne]; omega
                          have DD := Lib.hid (D5.out O (by omega) _ HX16.out)
                          rw [HCC.out O (by omega)] at DD
                          go_wp2_with fail
                          with_reducible refine DD.out.mono ?_
                          rintro x w17 ⟨v, rfl, ho, hb⟩
                          have B17 := Lib.hid (B16.out.trans (hb.mono B16.out.size))
                          obtain ⟨A7, c7, rfl, hX7, hc7, _, hA7⟩ := ho.slice
                          rw [HCLN.out O] at hX7 hc7 ⊢
                          have HX7 := Lib.hid hX7
                          have HA7 := Lib.hid hA7
                          have HC7 := Lib.hid hc7
                          clear hb ho hX7 hA7 hc7 DD
                          have hst := HST.out
                          rw [show min y (min E O) = O from by omega] at hst
                          obtain ⟨s1, s2⟩ := hst
                          have hor := HOR.out
                          have HOR7 : Hid (O = q ∨ cL u O + (k + 1) ≤ m) := Lib.hid (by rcases s2 with s2 | s2; exact .inl s2; rcases hor with hor | hor; omega; right; omega)
                          clear hor s2
                          obtain ⟨c8, hc8⟩ : ∃ c8, cL u O = c8 := ⟨_, rfl⟩
                          rw [hc8]
                          have HC8 := Lib.hid hc8
                          clear hc8
                          go_wp2
                          go_roundw
                          case rel => exact ⟨k + 1, O, A7, c7, by omega, by go_num, rfl, by rw [HC8.out], HX7.out, HA7.out, HC7.out, s1, by omega, HOR7.out, B17.out⟩
                          case measure => simp [intOf]; omega
                        · have hst := HST.out
                          rw [show min y (min E O) = y from by omega, HCE.out] at hst
                          obtain ⟨s1, s2⟩ := hst
                          have hyq : y = q := by rcases s2 with s2 | s2; exact s2; omega
                          have g36 : (((y : Nat) : Int) == ((q : Nat) : Int)) = true := by rw [beq_iff_eq]; omega
                          have g37 : (((y : Nat) : Int) == ((y : Nat) : Int)) = true := by simp
                          clear hyq s1 s2
                          go_wp2_with fail
                          with_reducible refine (known_any _).mono ?_
                          rintro x w17 ⟨rfl, hb⟩
                          have B17 := Lib.hid (B16.out.trans (hb.mono B16.out.size))
                          clear hb
                          go_wp2
                          go_ret
                          exact ⟨rfl, B17.out⟩
                      · by_cases h2 : E < y
                        · have g38 : (((E : Nat) : Int) == ((y : Nat) : Int)) = false := by rw [beq_eq_false_iff_ne]; omega
                          have DD := Lib.hid (D5.out E (by omega) _ HX16.out)
                          rw [HCC.out E (by omega)] at DD
                          go_wp2_with fail
                          with_reducible refine DD.out.mono ?_
                          rintro x w17 ⟨v, rfl, ho, hb⟩
                          have B17 := Lib.hid (B16.out.trans (hb.mono B16.out.size))
                          obtain ⟨A7, c7, rfl, hX7, hc7, _, hA7⟩ := ho.slice
                          rw [HCLN.out E] at hX7 hc7 ⊢
                          have HX7 := Lib.hid hX7
                          have HA7 := Lib.hid hA7
                          have HC7 := Lib.hid hc7
                          clear hb ho hX7 hA7 hc7 DD
                          have hst := HST.out
                          rw [show min y (min E O) = E from by omega] at hst
                          obtain ⟨s1, s2⟩ := hst
                          have hor := HOR.out
                          have HOR7 : Hid (E = q ∨ cL u E + (k + 1) ≤ m) := Lib.hid (by rcases s2 with s2 | s2; exact .inl s2; rcases hor with hor | hor; omega; right; omega)
                          clear hor s2
                          obtain ⟨c8, hc8⟩ : ∃ c8, cL u E = c8 := ⟨_, rfl⟩
                          rw [hc8]
                          have HC8 := Lib.hid hc8
                          clear hc8
                          go_wp2
                          go_roundw
                          case rel => exact ⟨k + 1, E, A7, c7, by omega, by go_num, rfl, by rw [HC8.out], HX7.out, HA7.out, HC7.out, s1, by omega, HOR7.out, B17.out⟩
                          case measure => simp [intOf]; omega
                        · have hst := HST.out
                          rw [show min y (min E O) = y from by omega, HCE.out] at hst
                          obtain ⟨s1, s2⟩ := hst
                          have hyq : y = q := by rcases s2 with s2 | s2; exact s2; omega
                          have g39 : (((y : Nat) : Int) == ((q : Nat) : Int)) = true := by rw [beq_iff_eq]; omega
                          have g40 : (((y : Nat) : Int) == ((y : Nat) : Int)) = true := by simp
                          clear hyq s1 s2
                          go_wp2_with fail
                          with_reducible refine (known_any _).mono ?_
                          rintro x w17 ⟨rfl, hb⟩
                          have B17 := Lib.hid (B16.out.trans (hb.mono B16.out.size))
                          clear hb
                          go_wp2
                          go_ret
                          exact ⟨rfl, B17.out⟩
                    · have g41 : decide ((k : Int) < (m : Int) + 2) = false := by rw [decide_eq_false_iff_not]; omega
                      have g42 : decide (k < m + 2) = false := by rw [decide_eq_false_iff_not]; omega
                      have hor := HOR.out
                      have hyq : y = q := by omega
                      have g43 : (((y : Nat) : Int) == ((q : Nat) : Int)) = true := by rw [beq_iff_eq]; omega
                      clear hyq hor
                      obtain ⟨c, hcc⟩ : ∃ c, cL u y = c := ⟨_, rfl⟩
                      rw [hcc] at HX' ⊢
                      clear hcc
                      go_wp2_with fail
                      with_reducible refine (known_any _).mono ?_
                      rintro x w13 ⟨rfl, hb⟩
                      have B13 := Lib.hid (HBE.out.trans (hb.mono HBE.out.size))
                      clear hb
                      go_wp2
                      go_ret
                      exact ⟨rfl, B13.out⟩
        · have g44 : decide ((0 : Int) < (n : Int)) = false := by rw [decide_eq_false_iff_not]; omega
          have g45 : decide (0 < n) = false := by rw [decide_eq_false_iff_not]; omega
          have g46 : (((n : Nat) : Int) == 0) = true := by rw [beq_iff_eq]; omega
          by_cases hm0 : 0 < m
          · have g47 : decide ((0 : Int) < (m : Int)) = true := by rw [decide_eq_true_iff]; omega
            have g48 : decide (0 < m) = true := by rw [decide_eq_true_iff]; omega
            have g49 : (((m : Nat) : Int) == 0) = false := by rw [beq_eq_false_iff_ne]; omega
            obtain ⟨b2, o2, rfl, hat⟩ := (HU.out.below B3.out).2.2 (by omega)
            obtain ⟨_, f1⟩ := hat 0 (by omega)
            rw [Nat.zero_mul, Nat.add_zero] at f1
            obtain ⟨s2, hs2⟩ : ∃ x, ls u 0 = x := ⟨_, rfl⟩
            rw [hs2] at f1
            have Hs2 := Lib.hid hs2
            clear hat hs2
            by_cases hs2 : 1 < s2
            · have g50 : decide ((1 : Int) < (s2 : Int)) = true := by rw [decide_eq_true_iff]; omega
              have g51 : decide (1 < s2) = true := by rw [decide_eq_true_iff]; omega
              go_wp2_with fail
              with_reducible refine (known_any _).mono ?_
              rintro x w4 ⟨rfl, hb⟩
              have B4 := Lib.hid (B3.out.trans (hb.mono B3.out.size))
              clear hb
              go_wp2
              go_ret
              exact ⟨rfl, B4.out⟩
            · have g52 : decide ((1 : Int) < (s2 : Int)) = false := by rw [decide_eq_false_iff_not]; omega
              have g53 : decide (1 < s2) = false := by rw [decide_eq_false_iff_not]; omega
              have HBB : Hid (Beg u l2) := Lib.hid ⟨fun _ => by rw [Hs2.out]; omega, fun q => by rw [HLB.out] at q; omega⟩
              by_cases hl0 : 0 < l
              · have g54 : decide ((0 : Int) < (l : Int)) = true := by rw [decide_eq_true_iff]; omega
                have g55 : decide (0 < l) = true := by rw [decide_eq_true_iff]; omega
                go_wp2_with fail
                with_reducible refine (known_any _).mono ?_
                rintro x w4 ⟨rfl, hb⟩
                have B4 := Lib.hid (B3.out.trans (hb.mono B3.out.size))
                clear hb
                go_wp2
                go_ret
                exact ⟨rfl, B4.out⟩
              · have g56 : decide ((0 : Int) < (l : Int)) = false := by rw [decide_eq_false_iff_not]; omega
                have g57 : decide (0 < l) = false := by rw [decide_eq_false_iff_not]; omega
                have HBA : Hid (Beg t l) := Lib.hid ⟨fun q => by rw [HLA.out] at q; omega, fun _ => by omega⟩
                go_wp2_with fail
                with_reducible refine (C3.out _ (HT.out.below B3.out) (HU.out.below B3.out)).mono ?_
                rintro x w10 ⟨r, rfl, hr, hb⟩
                have B10 := Lib.hid (B3.out.trans (hb.mono B3.out.size))
                have HR := Lib.hid hr
                clear hb hr C3
                cases r
                · clear HR
                  go_wp2_with fail
                  with_reducible refine (known_any _).mono ?_
                  rintro x w11 ⟨rfl, hb⟩
                  have B11 := Lib.hid (B10.out.trans (hb.mono B10.out.size))
                  clear hb
                  go_wp2
                  go_ret
                  exact ⟨rfl, B11.out⟩
                · have HS := Lib.hid (HR.out.1 rfl)
                  clear HR
                  have HF := Lib.hid (fork_is HM.out HM2.out l l2)
                  obtain ⟨q, hq⟩ : ∃ q, forkS t l u l2 = q := ⟨_, rfl⟩
                  rw [hq] at C4 HF
                  have hq2 := HF.out
                  have hql : q ≤ l2 := by omega
                  clear hq hq2
                  go_wp2_with fail
                  with_reducible refine (C4.out _ (HT.out.below B10.out) (HU.out.below B10.out)).mono ?_
                  rintro x w11 ⟨rfl, hb⟩
                  have B11 := Lib.hid (B10.out.trans (hb.mono B10.out.size))
                  clear hb C4
                  go_wp2_with fail
                  with_reducible refine (C5.out _ (HU.out.below B11.out)).mono ?_
                  rintro x w12 ⟨v, rfl, ho, hb⟩
                  have B12 := Lib.hid (B11.out.trans (hb.mono B11.out.size))
                  obtain ⟨A, cx, rfl, hX, hcx, _, hXA⟩ := ho.slice
                  rw [cut_length HM2.out] at hX hcx ⊢
                  have HX := Lib.hid hX
                  have HXA := Lib.hid hXA
                  have HCX := Lib.hid hcx
                  clear hb ho hX hXA hcx C5
                  have hcm3 := cL_le u l2
                  rw [HLB.out] at hcm3
                  have HC3 := Lib.hid hcm3
                  clear hcm3
                  obtain ⟨c0, hc0⟩ : ∃ c0, cL u l2 = c0 := ⟨_, rfl⟩
                  have HC0 := Lib.hid hc0
                  rw [hc0]
                  clear hc0
                  go_wp2_with fail
                  go_loopw [10, 11, 12] (MtR w m l2 q u) (fun _ _ i _ => m + 2 - (intOf i).toNat)
                  case atStart => exact ⟨0, l2, A, cx, by omega, rfl, rfl, by rw [HC0.out], HX.out, HXA.out, HCX.out, hql, Nat.le_refl _, .inr (by have := HC3.out; omega), B12.out⟩
                  case round =>
                    obtain ⟨k, y, A', cx', hk, rfl, rfl, rfl, hX', hXA', hcx', hqy, hyl, hor, hbel⟩ := hrel
                    have HX' := Lib.hid hX'
                    have HXA' := Lib.hid hXA'
                    have HCX' := Lib.hid hcx'
                    have HOR := Lib.hid hor
                    have HBE := Lib.hid hbel
                    clear hX' hXA' hcx' hor hbel
                    have hc3 := cL_le u y
                    rw [HLB.out] at hc3
                    by_cases hlt : k < m + 2
                    · obtain ⟨e, he⟩ : ∃ e, atS u y = e := ⟨_, rfl⟩
                      obtain ⟨E, hE⟩ : ∃ E, endS t l e = E := ⟨_, rfl⟩
                      obtain ⟨f, hf⟩ : ∃ f, atS t E = f := ⟨_, rfl⟩
                      obtain ⟨O, hO⟩ : ∃ O, endS u y f = O := ⟨_, rfl⟩
                      have hst := step_it HM.out HM2.out (la := l) (lb := l2) (last := y) (F := q) (com_is t u) HS.out (by omega) (by omega) HBA.out (beg_less HBB.out hyl) HF.out hqy hyl
                      rw [show nextS t l u y = min y (min E O) from by unfold nextS; rw [he, hE, hf, hO]] at hst
                      have HST := Lib.hid hst
                      have d1 := fun W (h : Tab W A' (cL u y) (cutS u y)) => at_any A' (cL u y) cx' y (cutS u y) W h (by omega)
                      rw [cut_at HM2.out (Nat.le_refl y), he] at d1
                      have d2 := C6.out e
                      rw [hE] at d2
                      have d3 := C7.out E
                      rw [hf] at d3
                      have d4 := fun W (h : Tab W A' (cL u y) (cutS u y)) => end_any A' (cL u y) cx' y f (cutS u y) W h (by omega) (by omega)
                      rw [cut_end HM2.out y f, hO] at d4
                      have d5 := fun z (hz : z ≤ y) W (h : Tab W A' (cL u y) (cutS u y)) => cut_any A' (cL u y) cx' z (cutS u y) W h HXA'.out HCX'.out (by omega)
                      have D1 := Lib.hid d1
                      have D2 := Lib.hid d2
                      have D3 := Lib.hid d3
                      have D4 := Lib.hid d4
                      have D5 := Lib.hid d5
                      clear d1 d2 d3 d4 d5 he hE hf hO hst
                      have HCC := Lib.hid (fun z (hz : z ≤ y) => cut_cut HM2.out hz)
                      have HCLN := Lib.hid (fun z => cut_length HM2.out z)
                      obtain ⟨c, hcc⟩ : ∃ c, cL u y = c := ⟨_, rfl⟩
                      rw [hcc] at HX' D1 D4 D5 HOR HST ⊢
                      have HCE := Lib.hid hcc
                      clear hcc
                      have g58 : decide ((k : Int) < (m : Int) + 2) = true := by rw [decide_eq_true_iff]; omega
                      have g59 : decide (k < m + 2) = true := by rw [decide_eq_true_iff]; omega
                      go_wp2_with fail
                      with_reducible refine (D1.out _ HX'.out).mono ?_
                      rintro x w13 ⟨rfl, hb⟩
                      have HX13 := Lib.hid (HX'.out.below hb)
                      have B13 := Lib.hid (HBE.out.trans (hb.mono HBE.out.size))
                      clear hb
                      go_wp2_with fail
                      with_reducible refine (D2.out _ (HT.out.below B13.out)).mono ?_
                      rintro x w14 ⟨rfl, hb⟩
                      have HX14 := Lib.hid (HX13.out.below hb)
                      have B14 := Lib.hid (B13.out.trans (hb.mono B13.out.size))
                      clear hb
                      go_wp2_with fail
                      with_reducible refine (D3.out _ (HT.out.below B14.out)).mono ?_
                      rintro x w15 ⟨rfl, hb⟩
                      have HX15 := Lib.hid (HX14.out.below hb)
                      have B15 := Lib.hid (B14.out.trans (hb.mono B14.out.size))
                      clear hb
                      go_wp2_with fail
                      with_reducible refine (D4.out _ HX15.out).mono ?_
                      rintro x w16 ⟨rfl, hb⟩
                      have HX16 := Lib.hid (HX15.out.below hb)
                      have B16 := Lib.hid (B15.out.trans (hb.mono B15.out.size))
                      clear hb
                      by_cases h1 : O < E
                      · by_cases h2 : O < y
                        · have g60 : (((O : Nat) : Int) == ((y : Nat) : Int)) = false := by rw [beq_eq_false_iff_ne]; omega
                          have DD := Lib.hid (D5.out O (by omega) _ HX16.out)
                          rw [HCC.out O (by omega)] at DD
                          go_wp2_with fail
                          with_reducible refine DD.out.mono ?_
                          rintro x w17 ⟨v, rfl, ho, hb⟩
                          have B17 := Lib.hid (B16.out.trans (hb.mono B16.out.size))
                          obtain ⟨A7, c7, rfl, hX7, hc7, _, hA7⟩ := ho.slice
                          rw [HCLN.out O] at hX7 hc7 ⊢
                          have HX7 := Lib.hid hX7
                          have HA7 := Lib.hid hA7
                          have HC7 := Lib.hid hc7
                          clear hb ho hX7 hA7 hc7 DD
                          have hst := HST.out
                          rw [show min y (min E O) = O from by omega] at hst
                          obtain ⟨s1, s2⟩ := hst
                          have hor := HOR.out
                          have HOR7 : Hid (O = q ∨ cL u O + (k + 1) ≤ m) := Lib.hid (by rcases s2 with s2 | s2; exact .inl s2; rcases hor with hor | hor; omega; right; omega)
                          clear hor s2
                          obtain ⟨c8, hc8⟩ : ∃ c8, cL u O = c8 := ⟨_, rfl⟩
                          rw [hc8]
                          have HC8 := Lib.hid hc8
                          clear hc8
                          go_wp2
                          go_roundw
                          case rel => exact ⟨k + 1, O, A7, c7, by omega, by go_num, rfl, by rw [HC8.out], HX7.out, HA7.out, HC7.out, s1, by omega, HOR7.out, B17.out⟩
                          case measure => simp [intOf]; omega
                        · have hst := HST.out
                          rw [show min y (min E O) = y from by omega, HCE.out] at hst
                          obtain ⟨s1, s2⟩ := hst
                          have hyq : y = q := by rcases s2 with s2 | s2; exact s2; omega
                          have g61 : (((y : Nat) : Int) == ((q : Nat) : Int)) = true := by rw [beq_iff_eq]; omega
                          have g62 : (((y : Nat) : Int) == ((y : Nat) : Int)) = true := by simp
                          clear hyq s1 s2
                          go_wp2_with fail
                          with_reducible refine (known_any _).mono ?_
                          rintro x w17 ⟨rfl, hb⟩
                          have B17 := Lib.hid (B16.out.trans (hb.mono B16.out.size))
                          clear hb
                          go_wp2
                          go_ret
                          exact ⟨rfl, B17.out⟩
                      · by_cases h2 : E < y
                        · have g63 : (((E : Nat) : Int) == ((y : Nat) : Int)) = false := by rw [beq_eq_false_iff_ne]; omega
                          have DD := Lib.hid (D5.out E (by omega) _ HX16.out)
                          rw [HCC.out E (by omega)] at DD
                          go_wp2_with fail
                          with_reducible refine DD.out.mono ?_
                          rintro x w17 ⟨v, rfl, ho, hb⟩
                          have B17 := Lib.hid (B16.out.trans (hb.mono B16.out.size))
                          obtain ⟨A7, c7, rfl, hX7, hc7, _, hA7⟩ := ho.slice
                          rw [HCLN.out E] at hX7 hc7 ⊢
                          have HX7 := Lib.hid hX7
                          have HA7 := Lib.hid hA7
                          have HC7 := Lib.hid hc7
                          clear hb ho hX7 hA7 hc7 DD
                          have hst := HST.out
                          rw [show min y (min E O) = E from by omega] at hst
                          obtain ⟨s1, s2⟩ := hst
                          have hor := HOR.out
                          have HOR7 : Hid (E = q ∨ cL u E + (k + 1) ≤ m) := Lib.hid (by rcases s2 with s2 | s2; exact .inl s2; rcases hor with hor | hor; omega; right; omega)
                          clear hor s2
                          obtain ⟨c8, hc8⟩ : ∃ c8, cL u E = c8 := ⟨_, rfl⟩
                          rw [hc8]
                          have HC8 := Lib.hid hc8
                          clear hc8
                          go_wp2
                          go_roundw
                          case rel => exact ⟨k + 1, E, A7, c7, by omega, by go_num, rfl, by rw [HC8.out], HX7.out, HA7.out, HC7.out, s1, by omega, HOR7.out, B17.out⟩
                          case measure => simp [intOf]; omega
                        · have hst := HST.out
                          rw [show min y (min E O) = y from by omega, HCE.out] at hst
                          obtain ⟨s1, s2⟩ := hst
                          have hyq : y = q := by rcases s2 with s2 | s2; exact s2; omega
                          have g64 : (((y : Nat) : Int) == ((q : Nat) : Int)) = true := by rw [beq_iff_eq]; omega
                          have g65 : (((y : Nat) : Int) == ((y : Nat) : Int)) = true := by simp
                          clear hyq s1 s2
                          go_wp2_with fail
                          with_reducible refine (known_any _).mono ?_
                          rintro x w17 ⟨rfl, hb⟩
                          have B17 := Lib.hid (B16.out.trans (hb.mono B16.out.size))
                          clear hb
                          go_wp2
                          go_ret
                          exact ⟨rfl, B17.out⟩
                    · have g66 : decide ((k : Int) < (m : Int) + 2) = false := by rw [decide_eq_false_iff_not]; omega
                      have g67 : decide (k < m + 2) = false := by rw [decide_eq_false_iff_not]; omega
                      have hor := HOR.out
                      have hyq : y = q := by omega
                      have g68 : (((y : Nat) : Int) == ((q : Nat) : Int)) = true := by rw [beq_iff_eq]; omega
                      clear hyq hor
                      obtain ⟨c, hcc⟩ : ∃ c, cL u y = c := ⟨_, rfl⟩
                      rw [hcc] at HX' ⊢
                      clear hcc
                      go_wp2_with fail
                      with_reducible refine (known_any _).mono ?_
                      rintro x w13 ⟨rfl, hb⟩
                      have B13 := Lib.hid (HBE.out.trans (hb.mono HBE.out.size))
                      clear hb
                      go_wp2
                      go_ret
                      exact ⟨rfl, B13.out⟩
          · have g69 : decide ((0 : Int) < (m : Int)) = false := by rw [decide_eq_false_iff_not]; omega
            have g70 : decide (0 < m) = false := by rw [decide_eq_false_iff_not]; omega
            have g71 : (((m : Nat) : Int) == 0) = true := by rw [beq_iff_eq]; omega
            by_cases hl0 : 0 < l
            · have g72 : decide ((0 : Int) < (l : Int)) = true := by rw [decide_eq_true_iff]; omega
              have g73 : decide (0 < l) = true := by rw [decide_eq_true_iff]; omega
              go_wp2_with fail
              with_reducible refine (known_any _).mono ?_
              rintro x w4 ⟨rfl, hb⟩
              have B4 := Lib.hid (B3.out.trans (hb.mono B3.out.size))
              clear hb
              go_wp2
              go_ret
              exact ⟨rfl, B4.out⟩
            · have g74 : decide ((0 : Int) < (l : Int)) = false := by rw [decide_eq_false_iff_not]; omega
              have g75 : decide (0 < l) = false := by rw [decide_eq_false_iff_not]; omega
              have HBA : Hid (Beg t l) := Lib.hid ⟨fun q => by rw [HLA.out] at q; omega, fun _ => by omega⟩
              by_cases hl1 : 0 < l2
              · have g76 : decide ((0 : Int) < (l2 : Int)) = true := by rw [decide_eq_true_iff]; omega
                have g77 : decide (0 < l2) = true := by rw [decide_eq_true_iff]; omega
                go_wp2_with fail
                with_reducible refine (known_any _).mono ?_
                rintro x w4 ⟨rfl, hb⟩
                have B4 := Lib.hid (B3.out.trans (hb.mono B3.out.size))
                clear hb
                go_wp2
                go_ret
                exact ⟨rfl, B4.out⟩
              · have g78 : decide ((0 : Int) < (l2 : Int)) = false := by rw [decide_eq_false_iff_not]; omega
                have g79 : decide (0 < l2) = false := by rw [decide_eq_false_iff_not]; omega
                have HBB : Hid (Beg u l2) := Lib.hid ⟨fun q => by rw [HLB.out] at q; omega, fun _ => by omega⟩
                go_wp2_with fail
                with_reducible refine (C3.out _ (HT.out.below B3.out) (HU.out.below B3.out)).mono ?_
                rintro x w10 ⟨r, rfl, hr, hb⟩
                have B10 := Lib.hid (B3.out.trans (hb.mono B3.out.size))
                have HR := Lib.hid hr
                clear hb hr C3
                cases r
                · clear HR
                  go_wp2_with fail
                  with_reducible refine (known_any _).mono ?_
                  rintro x w11 ⟨rfl, hb⟩
                  have B11 := Lib.hid (B10.out.trans (hb.mono B10.out.size))
                  clear hb
                  go_wp2
                  go_ret
                  exact ⟨rfl, B11.out⟩
                · have HS := Lib.hid (HR.out.1 rfl)
                  clear HR
                  have HF := Lib.hid (fork_is HM.out HM2.out l l2)
                  obtain ⟨q, hq⟩ : ∃ q, forkS t l u l2 = q := ⟨_, rfl⟩
                  rw [hq] at C4 HF
                  have hq2 := HF.out
                  have hql : q ≤ l2 := by omega
                  clear hq hq2
                  go_wp2_with fail
                  with_reducible refine (C4.out _ (HT.out.below B10.out) (HU.out.below B10.out)).mono ?_
                  rintro x w11 ⟨rfl, hb⟩
                  have B11 := Lib.hid (B10.out.trans (hb.mono B10.out.size))
                  clear hb C4
                  go_wp2_with fail
                  with_reducible refine (C5.out _ (HU.out.below B11.out)).mono ?_
                  rintro x w12 ⟨v, rfl, ho, hb⟩
                  have B12 := Lib.hid (B11.out.trans (hb.mono B11.out.size))
                  obtain ⟨A, cx, rfl, hX, hcx, _, hXA⟩ := ho.slice
                  rw [cut_length HM2.out] at hX hcx ⊢
                  have HX := Lib.hid hX
                  have HXA := Lib.hid hXA
                  have HCX := Lib.hid hcx
                  clear hb ho hX hXA hcx C5
                  have hcm3 := cL_le u l2
                  rw [HLB.out] at hcm3
                  have HC3 := Lib.hid hcm3
                  clear hcm3
                  obtain ⟨c0, hc0⟩ : ∃ c0, cL u l2 = c0 := ⟨_, rfl⟩
                  have HC0 := Lib.hid hc0
                  rw [hc0]
                  clear hc0
                  go_wp2_with fail
                  go_loopw [10, 11, 12] (MtR w m l2 q u) (fun _ _ i _ => m + 2 - (intOf i).toNat)
                  case atStart => exact ⟨0, l2, A, cx, by omega, rfl, rfl, by rw [HC0.out], HX.out, HXA.out, HCX.out, hql, Nat.le_refl _, .inr (by have := HC3.out; omega), B12.out⟩
                  case round =>
                    obtain ⟨k, y, A', cx', hk, rfl, rfl, rfl, hX', hXA', hcx', hqy, hyl, hor, hbel⟩ := hrel
                    have HX' := Lib.hid hX'
                    have HXA' := Lib.hid hXA'
                    have HCX' := Lib.hid hcx'
                    have HOR := Lib.hid hor
                    have HBE := Lib.hid hbel
                    clear hX' hXA' hcx' hor hbel
                    have hc3 := cL_le u y
                    rw [HLB.out] at hc3
                    by_cases hlt : k < m + 2
                    · obtain ⟨e, he⟩ : ∃ e, atS u y = e := ⟨_, rfl⟩
                      obtain ⟨E, hE⟩ : ∃ E, endS t l e = E := ⟨_, rfl⟩
                      obtain ⟨f, hf⟩ : ∃ f, atS t E = f := ⟨_, rfl⟩
                      obtain ⟨O, hO⟩ : ∃ O, endS u y f = O := ⟨_, rfl⟩
                      have hst := step_it HM.out HM2.out (la := l) (lb := l2) (last := y) (F := q) (com_is t u) HS.out (by omega) (by omega) HBA.out (beg_less HBB.out hyl) HF.out hqy hyl
                      rw [show nextS t l u y = min y (min E O) from by unfold nextS; rw [he, hE, hf, hO]] at hst
                      have HST := Lib.hid hst
                      have d1 := fun W (h : Tab W A' (cL u y) (cutS u y)) => at_any A' (cL u y) cx' y (cutS u y) W h (by omega)
                      rw [cut_at HM2.out (Nat.le_refl y), he] at d1
                      have d2 := C6.out e
                      rw [hE] at d2
                      have d3 := C7.out E
                      rw [hf] at d3
                      have d4 := fun W (h : Tab W A' (cL u y) (cutS u y)) => end_any A' (cL u y) cx' y f (cutS u y) W h (by omega) (by omega)
                      rw [cut_end HM2.out y f, hO] at d4
                      have d5 := fun z (hz : z ≤ y) W (h : Tab W A' (cL u y) (cutS u y)) => cut_any A' (cL u y) cx' z (cutS u y) W h HXA'.out HCX'.out (by omega)
                      have D1 := Lib.hid d1
                      have D2 := Lib.hid d2
                      have D3 := Lib.hid d3
                      have D4 := Lib.hid d4
                      have D5 := Lib.hid d5
                      clear d1 d2 d3 d4 d5 he hE hf hO hst
                      have HCC := Lib.hid (fun z (hz : z ≤ y) => cut_cut HM2.out hz)
                      have HCLN := Lib.hid (fun z => cut_length HM2.out z)
                      obtain ⟨c, hcc⟩ : ∃ c, cL u y = c := ⟨_, rfl⟩
                      rw [hcc] at HX' D1 D4 D5 HOR HST ⊢
                      have HCE := Lib.hid hcc
                      clear hcc
                      have g80 : decide ((k : Int) < (m : Int) + 2) = true := by rw [decide_eq_true_iff]; omega
                      have g81 : decide (k < m + 2) = true := by rw [decide_eq_true_iff]; omega
                      go_wp2_with fail
                      with_reducible refine (D1.out _ HX'.out).mono ?_
                      rintro x w13 ⟨rfl, hb⟩
                      have HX13 := Lib.hid (HX'.out.below hb)
                      have B13 := Lib.hid (HBE.out.trans (hb.mono HBE.out.size))
                      clear hb
                      go_wp2_with fail
                      with_reducible refine (D2.out _ (HT.out.below B13.out)).mono ?_
                      rintro x w14 ⟨rfl, hb⟩
                      have HX14 := Lib.hid (HX13.out.below hb)
                      have B14 := Lib.hid (B13.out.trans (hb.mono B13.out.size))
                      clear hb
                      go_wp2_with fail
                      with_reducible refine (D3.out _ (HT.out.below B14.out)).mono ?_
                      rintro x w15 ⟨rfl, hb⟩
                      have HX15 := Lib.hid (HX14.out.below hb)
                      have B15 := Lib.hid (B14.out.trans (hb.mono B14.out.size))
                      clear hb
                      go_wp2_with fail
                      with_reducible refine (D4.out _ HX15.out).mono ?_
                      rintro x w16 ⟨rfl, hb⟩
                      have HX16 := Lib.hid (HX15.out.below hb)
                      have B16 := Lib.hid (B15.out.trans (hb.mono B15.out.size))
                      clear hb
                      by_cases h1 : O < E
                      · by_cases h2 : O < y
                        · have g82 : (((O : Nat) : Int) == ((y : Nat) : Int)) = false := by rw [beq_eq_false_iff_ne]; omega
                          have DD := Lib.hid (D5.out O (by omega) _ HX16.out)
                          rw [HCC.out O (by omega)] at DD
                          go_wp2_with fail
                          with_reducible refine DD.out.mono ?_
                          rintro x w17 ⟨v, rfl, ho, hb⟩
                          have B17 := Lib.hid (B16.out.trans (hb.mono B16.out.size))
                          obtain ⟨A7, c7, rfl, hX7, hc7, _, hA7⟩ := ho.slice
                          rw [HCLN.out O] at hX7 hc7 ⊢
                          have HX7 := Lib.hid hX7
                          have HA7 := Lib.hid hA7
                          have HC7 := Lib.hid hc7
                          clear hb ho hX7 hA7 hc7 DD
                          have hst := HST.out
                          rw [show min y (min E O) = O from by omega] at hst
                          obtain ⟨s1, s2⟩ := hst
                          have hor := HOR.out
                          have HOR7 : Hid (O = q ∨ cL u O + (k + 1) ≤ m) := Lib.hid (by rcases s2 with s2 | s2; exact .inl s2; rcases hor with hor | hor; omega; right; omega)
                          clear hor s2
                          obtain ⟨c8, hc8⟩ : ∃ c8, cL u O = c8 := ⟨_, rfl⟩
                          rw [hc8]
                          have HC8 := Lib.hid hc8
                          clear hc8
                          go_wp2
                          go_roundw
                          case rel => exact ⟨k + 1, O, A7, c7, by omega, by go_num, rfl, by rw [HC8.out], HX7.out, HA7.out, HC7.out, s1, by omega, HOR7.out, B17.out⟩
                          case measure => simp [intOf]; omega
                        · have hst := HST.out
                          rw [show min y (min E O) = y from by omega, HCE.out] at hst
                          obtain ⟨s1, s2⟩ := hst
                          have hyq : y = q := by rcases s2 with s2 | s2; exact s2; omega
                          have g83 : (((y : Nat) : Int) == ((q : Nat) : Int)) = true := by rw [beq_iff_eq]; omega
                          have g84 : (((y : Nat) : Int) == ((y : Nat) : Int)) = true := by simp
                          clear hyq s1 s2
                          go_wp2_with fail
                          with_reducible refine (known_any _).mono ?_
                          rintro x w17 ⟨rfl, hb⟩
                          have B17 := Lib.hid (B16.out.trans (hb.mono B16.out.size))
                          clear hb
                          go_wp2
                          go_ret
                          exact ⟨rfl, B17.out⟩
                      · by_cases h2 : E < y
                        · have g85 : (((E : Nat) : Int) == ((y : Nat) : Int)) = false := by rw [beq_eq_false_iff_ne]; omega
                          have DD := Lib.hid (D5.out E (by omega) _ HX16.out)
                          rw [HCC.out E (by omega)] at DD
                          go_wp2_with fail
                          with_reducible refine DD.out.mono ?_
                          rintro x w17 ⟨v, rfl, ho, hb⟩
                          have B17 := Lib.hid (B16.out.trans (hb.mono B16.out.size))
                          obtain ⟨A7, c7, rfl, hX7, hc7, _, hA7⟩ := ho.slice
                          rw [HCLN.out E] at hX7 hc7 ⊢
                          have HX7 := Lib.hid hX7
                          have HA7 := Lib.hid hA7
                          have HC7 := Lib.hid hc7
                          clear hb ho hX7 hA7 hc7 DD
                          have hst := HST.out
                          rw [show min y (min E O) = E from by omega] at hst
                          obtain ⟨s1, s2⟩ := hst
                          have hor := HOR.out
                          have HOR7 : Hid (E = q ∨ cL u E + (k + 1) ≤ m) := Lib.hid (by rcases s2 with s2 | s2; exact .inl s2; rcases hor with hor | hor; omega; right; omega)
                          clear hor s2
                          obtain ⟨c8, hc8⟩ : ∃ c8, cL u E = c8 := ⟨_, rfl⟩
                          rw [hc8]
                          have HC8 := Lib.hid hc8
                          clear hc8
                          go_wp2
                          go_roundw
                          case rel => exact ⟨k + 1, E, A7, c7, by omega, by go_num, rfl, by rw [HC8.out], HX7.out, HA7.out, HC7.out, s1, by omega, HOR7.out, B17.out⟩
                          case measure => simp [intOf]; omega
                        · have hst := HST.out
                          rw [show min y (min E O) = y from by omega, HCE.out] at hst
                          obtain ⟨s1, s2⟩ := hst
                          have hyq : y = q := by rcases s2 with s2 | s2; exact s2; omega
                          have g86 : (((y : Nat) : Int) == ((q : Nat) : Int)) = true := by rw [beq_iff_eq]; omega
                          have g87 : (((y : Nat) : Int) == ((y : Nat) : Int)) = true := by simp
                          clear hyq s1 s2
                          go_wp2_with fail
                          with_reducible refine (known_any _).mono ?_
                          rintro x w17 ⟨rfl, hb⟩
                          have B17 := Lib.hid (B16.out.trans (hb.mono B16.out.size))
                          clear hb
                          go_wp2
                          go_ret
                          exact ⟨rfl, B17.out⟩
                    · have g88 : decide ((k : Int) < (m : Int) + 2) = false := by rw [decide_eq_false_iff_not]; omega
                      have g89 : decide (k < m + 2) = false := by rw [decide_eq_false_iff_not]; omega
                      have hor := HOR.out
                      have hyq : y = q := by omega
                      have g90 : (((y : Nat) : Int) == ((q : Nat) : Int)) = true := by rw [beq_iff_eq]; omega
                      clear hyq hor
                      obtain ⟨c, hcc⟩ : ∃ c, cL u y = c := ⟨_, rfl⟩
                      rw [hcc] at HX' ⊢
                      clear hcc
                      go_wp2_with fail
                      with_reducible refine (known_any _).mono ?_
                      rintro x w13 ⟨rfl, hb⟩
                      have B13 := Lib.hid (HBE.out.trans (hb.mono HBE.out.size))
                      clear hb
                      go_wp2
                      go_ret
                      exact ⟨rfl, B13.out⟩
      · clear hM hc
        rw [hd] at C2
        clear hM2 hd
        go_enter Try.func8, Try.ntmps8
        go_wp2_with fail
        with_reducible refine (C0.out).mono ?_
        rintro x w1 ⟨rfl, rfl⟩
        go_wp2_with fail
        with_reducible refine (C1.out).mono ?_
        rintro x w2 ⟨rfl, hb⟩
        have B2 := Lib.hid (B0.out.trans (hb.mono B0.out.size))
        clear hb
        rw [show ((0 : Nat) : Int) = 0 from rfl]
        go_wp2_with fail
        with_reducible refine (C2.out _ (HU.out.below B2.out)).mono ?_
        rintro x w3 ⟨rfl, hb⟩
        have B3 := Lib.hid (B2.out.trans (hb.mono B2.out.size))
        clear hb
        rw [show ((60 : Nat) : Int) = 60 from rfl]
        go_wp2_with fail
        with_reducible refine (known_any _).mono ?_
        rintro x w4 ⟨rfl, hb⟩
        have B4 := Lib.hid (B3.out.trans (hb.mono B3.out.size))
        clear hb
        go_wp2
        go_ret
        exact ⟨rfl, B4.out⟩
    · rw [hc] at C1
      clear hM hc
      go_enter Try.func8, Try.ntmps8
      go_wp2_with fail
      with_reducible refine (C0.out).mono ?_
      rintro x w1 ⟨rfl, rfl⟩
      go_wp2_with fail
      with_reducible refine (C1.out).mono ?_
      rintro x w2 ⟨rfl, hb⟩
      have B2 := Lib.hid (B0.out.trans (hb.mono B0.out.size))
      clear hb
      rw [show ((60 : Nat) : Int) = 60 from rfl]
      go_wp2_with fail
      with_reducible refine (known_any _).mono ?_
      rintro x w3 ⟨rfl, hb⟩
      have B3 := Lib.hid (B2.out.trans (hb.mono B2.out.size))
      clear hb
      go_wp2
      go_ret
      exact ⟨rfl, B3.out⟩

end Go.Proofs.Ytngnfgnaagbpjaa
