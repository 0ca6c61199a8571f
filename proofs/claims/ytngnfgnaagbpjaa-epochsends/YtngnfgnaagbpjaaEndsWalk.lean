/-
  The walk of EpochsEnds, out of the contracts.
-/
import Derived.Test.YtngnfgnaagbpjaaKnown
import Derived.Test.YtngnfgnaagbpjaaEnMath
import Derived.Test.YtngnfgnaagbpjaaIn
namespace Go.Proofs.Ytngnfgnaagbpjaa
open Go.RowKit
set_option linter.unusedVariables false

set_option maxRecDepth 100000 in
set_option maxHeartbeats 4000000 in
theorem epochsEnds_walk (a : Option Addr) (n cap : Nat) (t : Tbl) (l e : Nat) (w : World) (hI : InTab w a n cap t) (hl : l < 18446744073709551616) (he : e < 4294967296) :
    Calls Try.prog 7 #[.slice a n cap, .int .u64 (l : Int), .int .u32 (e : Int)] w fun x w' => x = .returned (.bool true) ∧ Below w.heap.size w w' := by
  obtain ⟨hT, hnc, hcm, hA⟩ := hI
  have HT := Lib.hid hT
  have HLEN := Lib.hid hT.1
  have B0 := Lib.hid (Below.refl w.heap.size w)
  clear hA
  have C0 := Lib.hid (many_any a none n 0 cap 0 w)
  by_cases hn : 500 < n
  · rw [show manyB n 0 = true from by unfold manyB; rw [decide_eq_true_iff]; omega] at C0
    clear hT
    go_enter Try.func7, Try.ntmps7
    go_wp2_with fail
    with_reducible refine (C0.out).mono ?_
    rintro x w1 ⟨rfl, rfl⟩
    go_wp2_with fail
    with_reducible refine (known_any _).mono ?_
    rintro x w2 ⟨rfl, hb⟩
    have B2 := Lib.hid (B0.out.trans (hb.mono B0.out.size))
    clear hb
    go_wp2
    go_ret
    exact ⟨rfl, B2.out⟩
  · rw [show manyB n 0 = false from by unfold manyB; rw [decide_eq_false_iff_not]; omega] at C0
    have C1 := Lib.hid (check_any a n cap t w hT (small_len _ (by omega)))
    clear hT
    rcases chk_cases t with ⟨hM, hc⟩ | ⟨hM, hc⟩
    · rw [hc] at C1
      have C2 := Lib.hid (fun W (h : Tab W a n t) => end_any a n cap l e t W h (by omega) (by omega))
      have HE1 := end_le hM (last := l) (e := e) (by omega)
      have HE2 := Lib.hid (end_in hM (last := l) (e := e) (by omega))
      have HE3 := Lib.hid (end_next hM (last := l) (e := e) (by omega))
      have HE4 := Lib.hid (end_none hM (last := l) (e := e) (by omega))
      rw [HLEN.out] at HE4
      clear hM hc
      generalize endS t l e = q at *
      go_enter Try.func7, Try.ntmps7
      go_wp2_with fail
      with_reducible refine (C0.out).mono ?_
      rintro x w1 ⟨rfl, rfl⟩
      go_wp2_with fail
      with_reducible refine (C1.out).mono ?_
      rintro x w2 ⟨rfl, hb⟩
      have B2 := Lib.hid (B0.out.trans (hb.mono B0.out.size))
      clear hb
      rw [show ((0 : Nat) : Int) = 0 from rfl]
      go_wp2_with fail
      with_reducible refine (C2.out _ (HT.out.below B2.out)).mono ?_
      rintro x w3 ⟨rfl, hb⟩
      have B3 := Lib.hid (B2.out.trans (hb.mono B2.out.size))
      clear hb
      clear C0 C1 C2
      by_cases h0 : q = 0
      · have HZ4 := Lib.hid (HE4.out h0)
        clear HE2 HE3 HE4
        have g1 : decide ((l : Int) < (q : Int)) = false := by rw [decide_eq_false_iff_not]; omega
        have g2 : decide (l < q) = false := by rw [decide_eq_false_iff_not]; omega
        have g3 : decide ((0 : Int) < (q : Int)) = false := by rw [decide_eq_false_iff_not]; omega
        have g4 : decide (0 < q) = false := by rw [decide_eq_false_iff_not]; omega
        have g5 : (((q : Nat) : Int) == 0) = true := by rw [beq_iff_eq]; omega
        clear h0
        by_cases hl1 : q < l
        · have g6 : decide ((q : Int) < (l : Int)) = true := by rw [decide_eq_true_iff]; omega
          have g7 : decide (q < l) = true := by rw [decide_eq_true_iff]; omega
          by_cases hn0 : 0 < n
          · have g8 : decide ((0 : Int) < (n : Int)) = true := by rw [decide_eq_true_iff]; omega
            have g9 : decide (0 < n) = true := by rw [decide_eq_true_iff]; omega
            obtain ⟨b, off, rfl, hat⟩ := (HT.out.below B3.out).2.2 hn0
            obtain ⟨d0, d1⟩ := hat 0 hn0
            rw [Nat.zero_mul, Nat.add_zero] at d0 d1
            have HZ5 := Lib.hid (HZ4.out hn0)
            generalize ls t 0 = s0 at *
            generalize ep t 0 = s1 at *
            clear hat HZ4
            by_cases h2 : s0 ≤ l
            · have g10 : decide ((s0 : Int) ≤ (l : Int)) = true := by rw [decide_eq_true_iff]; omega
              have g11 : decide (s0 ≤ l) = true := by rw [decide_eq_true_iff]; omega
              have hs1 : ¬ s1 ≤ e := fun h => HZ5.out ⟨h2, h⟩
              have g12 : decide ((s1 : Int) ≤ (e : Int)) = false := by rw [decide_eq_false_iff_not]; omega
              have g13 : decide (s1 ≤ e) = false := by rw [decide_eq_false_iff_not]; omega
              go_wp2_with fail
              with_reducible refine (known_any _).mono ?_
              rintro x w4 ⟨rfl, hb⟩
              have B4 := Lib.hid (B3.out.trans (hb.mono B3.out.size))
              clear hb
              go_wp2
              go_ret
              exact ⟨rfl, B4.out⟩
            · have g14 : decide ((s0 : Int) ≤ (l : Int)) = false := by rw [decide_eq_false_iff_not]; omega
              have g15 : decide (s0 ≤ l) = false := by rw [decide_eq_false_iff_not]; omega
              go_wp2_with fail
              with_reducible refine (known_any _).mono ?_
              rintro x w4 ⟨rfl, hb⟩
              have B4 := Lib.hid (B3.out.trans (hb.mono B3.out.size))
              clear hb
              go_wp2
              go_ret
              exact ⟨rfl, B4.out⟩
          · have g16 : decide ((0 : Int) < (n : Int)) = false := by rw [decide_eq_false_iff_not]; omega
            have g17 : decide (0 < n) = false := by rw [decide_eq_false_iff_not]; omega
            go_wp2_with fail
            with_reducible refine (known_any _).mono ?_
            rintro x w4 ⟨rfl, hb⟩
            have B4 := Lib.hid (B3.out.trans (hb.mono B3.out.size))
            clear hb
            go_wp2
            go_ret
            exact ⟨rfl, B4.out⟩
        · have g18 : decide ((q : Int) < (l : Int)) = false := by rw [decide_eq_false_iff_not]; omega
          have g19 : decide (q < l) = false := by rw [decide_eq_false_iff_not]; omega
          by_cases hn0 : 0 < n
          · have g20 : decide ((0 : Int) < (n : Int)) = true := by rw [decide_eq_true_iff]; omega
            have g21 : decide (0 < n) = true := by rw [decide_eq_true_iff]; omega
            obtain ⟨b, off, rfl, hat⟩ := (HT.out.below B3.out).2.2 hn0
            obtain ⟨d0, d1⟩ := hat 0 hn0
            rw [Nat.zero_mul, Nat.add_zero] at d0 d1
            have HZ5 := Lib.hid (HZ4.out hn0)
            generalize ls t 0 = s0 at *
            generalize ep t 0 = s1 at *
            clear hat HZ4
            by_cases h2 : s0 ≤ l
            · have g22 : decide ((s0 : Int) ≤ (l : Int)) = true := by rw [decide_eq_true_iff]; omega
              have g23 : decide (s0 ≤ l) = true := by rw [decide_eq_true_iff]; omega
              have hs1 : ¬ s1 ≤ e := fun h => HZ5.out ⟨h2, h⟩
              have g24 : decide ((s1 : Int) ≤ (e : Int)) = false := by rw [decide_eq_false_iff_not]; omega
              have g25 : decide (s1 ≤ e) = false := by rw [decide_eq_false_iff_not]; omega
              go_wp2_with fail
              with_reducible refine (known_any _).mono ?_
              rintro x w4 ⟨rfl, hb⟩
              have B4 := Lib.hid (B3.out.trans (hb.mono B3.out.size))
              clear hb
              go_wp2
              go_ret
              exact ⟨rfl, B4.out⟩
            · have g26 : decide ((s0 : Int) ≤ (l : Int)) = false := by rw [decide_eq_false_iff_not]; omega
              have g27 : decide (s0 ≤ l) = false := by rw [decide_eq_false_iff_not]; omega
              go_wp2_with fail
              with_reducible refine (known_any _).mono ?_
              rintro x w4 ⟨rfl, hb⟩
              have B4 := Lib.hid (B3.out.trans (hb.mono B3.out.size))
              clear hb
              go_wp2
              go_ret
              exact ⟨rfl, B4.out⟩
          · have g28 : decide ((0 : Int) < (n : Int)) = false := by rw [decide_eq_false_iff_not]; omega
            have g29 : decide (0 < n) = false := by rw [decide_eq_false_iff_not]; omega
            go_wp2_with fail
            with_reducible refine (known_any _).mono ?_
            rintro x w4 ⟨rfl, hb⟩
            have B4 := Lib.hid (B3.out.trans (hb.mono B3.out.size))
            clear hb
            go_wp2
            go_ret
            exact ⟨rfl, B4.out⟩
      · have hpos : 0 < q := by omega
        obtain ⟨hz1, hz2⟩ := HE2.out hpos
        have g30 : decide ((l : Int) < (q : Int)) = false := by rw [decide_eq_false_iff_not]; omega
        have g31 : decide (l < q) = false := by rw [decide_eq_false_iff_not]; omega
        have g32 : decide ((0 : Int) < (q : Int)) = true := by rw [decide_eq_true_iff]; omega
        have g33 : decide (0 < q) = true := by rw [decide_eq_true_iff]; omega
        have g34 : (((q : Nat) : Int) == 0) = false := by rw [beq_eq_false_iff_ne]; omega
        have C3 := Lib.hid (at_any a n cap q t w3 (HT.out.below B3.out) (by omega))
        clear HE4 HE2
        generalize atS t q = z at *
        have g35 : (((z : Nat) : Int) == 0) = false := by rw [beq_eq_false_iff_ne]; omega
        have g36 : decide ((e : Int) < (z : Int)) = false := by rw [decide_eq_false_iff_not]; omega
        have g37 : decide (e < z) = false := by rw [decide_eq_false_iff_not]; omega
        go_wp2_with fail
        with_reducible refine (C3.out).mono ?_
        rintro x w4 ⟨rfl, hb⟩
        have B4 := Lib.hid (B3.out.trans (hb.mono B3.out.size))
        clear hb
        clear C3
        by_cases hl1 : q < l
        · have HY := HE3.out hpos hl1
          have C4 := Lib.hid (at_any a n cap (q + 1) t w4 (HT.out.below B4.out) (by omega))
          generalize atS t (q + 1) = y at *
          rw [show ((q + 1 : Nat) : Int) = (q : Int) + 1 from by omega] at C4
          clear HE3
          have g38 : decide ((q : Int) < (l : Int)) = true := by rw [decide_eq_true_iff]; omega
          have g39 : decide (q < l) = true := by rw [decide_eq_true_iff]; omega
          have g40 : decide ((y : Int) ≤ (e : Int)) = false := by rw [decide_eq_false_iff_not]; omega
          have g41 : decide (y ≤ e) = false := by rw [decide_eq_false_iff_not]; omega
          go_wp2_with fail
          with_reducible refine (C4.out).mono ?_
          rintro x w5 ⟨rfl, hb⟩
          have B5 := Lib.hid (B4.out.trans (hb.mono B4.out.size))
          clear hb
          go_wp2_with fail
          with_reducible refine (known_any _).mono ?_
          rintro x w6 ⟨rfl, hb⟩
          have B6 := Lib.hid (B5.out.trans (hb.mono B5.out.size))
          clear hb
          go_wp2
          go_ret
          exact ⟨rfl, B6.out⟩
        · clear HE3
          have g42 : decide ((q : Int) < (l : Int)) = false := by rw [decide_eq_false_iff_not]; omega
          have g43 : decide (q < l) = false := by rw [decide_eq_false_iff_not]; omega
          go_wp2_with fail
          with_reducible refine (known_any _).mono ?_
          rintro x w5 ⟨rfl, hb⟩
          have B5 := Lib.hid (B4.out.trans (hb.mono B4.out.size))
          clear hb
          go_wp2
          go_ret
          exact ⟨rfl, B5.out⟩
    · rw [hc] at C1
      clear hM hc
      go_enter Try.func7, Try.ntmps7
      go_wp2_with fail
      with_reducible refine (C0.out).mono ?_
      rintro x w1 ⟨rfl, rfl⟩
      go_wp2_with fail
      with_reducible refine (C1.out).mono ?_
      rintro x w2 ⟨rfl, hb⟩
      have B2 := Lib.hid (B0.out.trans (hb.mono B0.out.size))
      clear hb
      rw [show ((60 : Nat) : Int) = 60 from rfl]
      go_wp2_with fail
      with_reducible refine (known_any _).mono ?_
      rintro x w3 ⟨rfl, hb⟩
      have B3 := Lib.hid (B2.out.trans (hb.mono B2.out.size))
      clear hb
      go_wp2
      go_ret
      exact ⟨rfl, B3.out⟩

end Go.Proofs.Ytngnfgnaagbpjaa
