/-
  The walk of EpochsParts, out of the contracts.
-/
import Derived.Test.YtngnfgnaagbpjaaKnown
import Derived.Test.YtngnfgnaagbpjaaEnMath
import Derived.Test.YtngnfgnaagbpjaaSame
import Derived.Test.YtngnfgnaagbpjaaIn
namespace Go.Proofs.Ytngnfgnaagbpjaa
open Go.RowKit
set_option linter.unusedVariables false

theorem cut_len (t : Tbl) (x : Nat) : (cutS t x).length ≤ t.length := by
  unfold cutS
  split
  · rw [List.length_take]; omega
  · simp

set_option maxRecDepth 100000 in
set_option maxHeartbeats 8000000 in
theorem epochsParts_walk (a : Option Addr) (n cap : Nat) (t : Tbl) (l : Nat) (b : Option Addr) (m dap : Nat) (u : Tbl) (l2 x0 : Nat) (w : World) (hI : InTab w a n cap t) (hl : l < 18446744073709551616) (hI2 : InTab w b m dap u) (hl2 : l2 < 18446744073709551616) (hx0 : x0 < 18446744073709551616) :
    Calls Try.prog 6 #[.slice a n cap, .int .u64 (l : Int), .slice b m dap, .int .u64 (l2 : Int), .int .u64 (x0 : Int)] w fun x w' => x = .returned (.bool true) ∧ Below w.heap.size w w' := by
  obtain ⟨hT, hnc, hcm, hA⟩ := hI
  obtain ⟨hT2, hnc2, hcm2, hA2⟩ := hI2
  have HT := Lib.hid hT
  have HU := Lib.hid hT2
  have HCA := Lib.hid hA
  have HCB := Lib.hid hA2
  have HLA := Lib.hid hT.1
  have HLB := Lib.hid hT2.1
  have B0 := Lib.hid (Below.refl w.heap.size w)
  have C0 := Lib.hid (many_any a b n m cap dap w)
  clear hA hA2
  by_cases hn : 500 < n ∨ 500 < m
  · rw [show manyB n m = true from by unfold manyB; rw [decide_eq_true_iff]; omega] at C0
    clear hT hT2
    go_enter Try.func6, Try.ntmps6
    go_wp2_with fail
    with_reducible refine (C0.out).mono ?_
    rintro x w1 ⟨rfl, rfl⟩
    go_wp2_with fail
    with_reducible refine (known_any _).mono ?_
    rintro x w2 ⟨rfl, hb⟩
    have B2 := Lib.hid (B0.out.trans (hb.mono B0.out.size))
    clear hb
    go_wp2
    go_ret
    exact ⟨rfl, B2.out⟩
  · rw [show manyB n m = false from by unfold manyB; rw [decide_eq_false_iff_not]; omega] at C0
    have C1 := Lib.hid (check_any a n cap t w hT (small_len _ (by omega)))
    have C2 := Lib.hid (fun W (h : Tab W b m u) => check_any b m dap u W h (small_len _ (by omega)))
    clear hT hT2
    rcases chk_cases t with ⟨hM, hc⟩ | ⟨hM, hc⟩
    · rw [hc] at C1
      rcases chk_cases u with ⟨hM2, hd⟩ | ⟨hM2, hd⟩
      · rw [hd] at C2
        have C3 := Lib.hid (fun W (h : Tab W a n t) (k : Tab W b m u) => fork_any a b n m cap dap l l2 t u W h k (by omega) (by omega))
        have C4 := Lib.hid (fun W (h : Tab W a n t) => fork_any a a n n cap cap l l t t W h h (by omega) (by omega))
        rw [fork_self hM l (by omega)] at C4
        have C5 := Lib.hid (fun x W (h : Tab W a n t) => at_any a n cap x t W h (by omega))
        have C6 := Lib.hid (fun x W (h : Tab W b m u) => at_any b m dap x u W h (by omega))
        have C7 := Lib.hid (fun x W (h : Tab W a n t) => cut_any a n cap x t W h HCA.out hnc (by omega))
        have C8 := Lib.hid (fun x W (h : Tab W b m u) => cut_any b m dap x u W h HCB.out hnc2 (by omega))
        obtain ⟨f1, f2, f3, f4⟩ := fork_le hM hM2 l l2
        have HAP := Lib.hid (fork_apart hM hM2 l l2 (by omega))
        have HPA := Lib.hid (fun k (h : k ≤ forkS t l u l2) => part_at hM hM2 (com_is t u) (k := k) (by omega) (by omega))
        have HPC := Lib.hid (part_cut hM hM2 (com_is t u) (k := forkS t l u l2) (by omega) (by omega))
        have hcl : (cutS t (forkS t l u l2)).length ≤ 500 := by have := cut_len t (forkS t l u l2); rw [HLA.out] at this; omega
        have HCL := Lib.hid hcl
        clear hcl f3 f4 hM hM2 hc hd
        generalize forkS t l u l2 = q at *
        go_enter Try.func6, Try.ntmps6
        go_wp2_with fail
        with_reducible refine (C0.out).mono ?_
        rintro x w1 ⟨rfl, rfl⟩
        go_wp2_with fail
        with_reducible refine (C1.out).mono ?_
        rintro x w2 ⟨rfl, hb⟩
        have B2 := Lib.hid (B0.out.trans (hb.mono B0.out.size))
        clear hb
        rw [show ((0 : Nat) : Int) = 0 from rfl]
        go_wp2_with fail
        with_reducible refine (C2.out _ (HU.out.below B2.out)).mono ?_
        rintro x w3 ⟨rfl, hb⟩
        have B3 := Lib.hid (B2.out.trans (hb.mono B2.out.size))
        clear hb
        rw [show ((0 : Nat) : Int) = 0 from rfl]
        go_wp2_with fail
        with_reducible refine (C3.out _ (HT.out.below B3.out) (HU.out.below B3.out)).mono ?_
        rintro x w4 ⟨rfl, hb⟩
        have B4 := Lib.hid (B3.out.trans (hb.mono B3.out.size))
        clear hb
        have g1 : decide ((l : Int) < (q : Int)) = false := by rw [decide_eq_false_iff_not]; omega
        have g2 : decide (l < q) = false := by rw [decide_eq_false_iff_not]; omega
        have g3 : decide ((l2 : Int) < (q : Int)) = false := by rw [decide_eq_false_iff_not]; omega
        have g4 : decide (l2 < q) = false := by rw [decide_eq_false_iff_not]; omega
        go_wp2_with fail
        with_reducible refine (C4.out _ (HT.out.below B4.out)).mono ?_
        rintro x w5 ⟨rfl, hb⟩
        have B5 := Lib.hid (B4.out.trans (hb.mono B4.out.size))
        clear hb
        have gx : (((l : Nat) : Int) != ((l : Nat) : Int)) = false := by simp
        clear C0 C1 C2 C3 C4
        by_cases h1 : q < l
        · have g5 : decide ((q : Int) < (l : Int)) = true := by rw [decide_eq_true_iff]; omega
          have g6 : decide (q < l) = true := by rw [decide_eq_true_iff]; omega
          by_cases h2 : q < l2
          · have g7 : decide ((q : Int) < (l2 : Int)) = true := by rw [decide_eq_true_iff]; omega
            have g8 : decide (q < l2) = true := by rw [decide_eq_true_iff]; omega
            have HNE := HAP.out h1 h2
            have D1 := fun W h => Lib.hid (C5.out (q + 1) W h)
            have D2 := fun W h => Lib.hid (C6.out (q + 1) W h)
            rw [show ((q + 1 : Nat) : Int) = (q : Int) + 1 from by omega] at D1 D2
            generalize atS t (q + 1) = y1 at *
            generalize atS u (q + 1) = y2 at *
            have DD1 := Lib.hid D1
            have DD2 := Lib.hid D2
            clear D1 D2
            have gw : (((y1 : Nat) : Int) == ((y2 : Nat) : Int)) = false := by rw [beq_eq_false_iff_ne]; omega
            go_wp2_with fail
            with_reducible refine ((DD1.out _ (HT.out.below B5.out)).out).mono ?_
            rintro x w6 ⟨rfl, hb⟩
            have B6 := Lib.hid (B5.out.trans (hb.mono B5.out.size))
            clear hb
            go_wp2_with fail
            with_reducible refine ((DD2.out _ (HU.out.below B6.out)).out).mono ?_
            rintro x w7 ⟨rfl, hb⟩
            have B7 := Lib.hid (B6.out.trans (hb.mono B6.out.size))
            clear hb
            clear DD1 DD2
            by_cases h0 : q = 0
            · have g9 : (((q : Nat) : Int) == 0) = true := by rw [beq_iff_eq]; omega
              clear h0
              go_wp2_with fail
              with_reducible refine (known_any _).mono ?_
              rintro x w8 ⟨rfl, hb⟩
              have B8 := Lib.hid (B7.out.trans (hb.mono B7.out.size))
              clear hb
              go_wp2
              go_ret
              exact ⟨rfl, B8.out⟩
            · have g10 : (((q : Nat) : Int) == 0) = false := by rw [beq_eq_false_iff_ne]; omega
              obtain ⟨r, hr⟩ : ∃ r, x0 % q = r := ⟨_, rfl⟩
              have hrq : r < q := by rw [← hr]; exact Nat.mod_lt _ (by omega)
              have hrem : (x0 : Int) % (q : Int) = (r : Int) := by omega
              have hrem2 : (x0 : Int).tmod (q : Int) = (r : Int) := by rw [Int.tmod_eq_emod_of_nonneg (by omega)]; exact hrem
              clear hr
              have E1 := HPA.out (r + 1) (by omega)
              have E2 := HPA.out q (Nat.le_refl _)
              have D1 := fun W h => Lib.hid (C5.out (r + 1) W h)
              have D2 := fun W h => Lib.hid (C6.out (r + 1) W h)
              rw [← E1] at D2
              have D3 := fun W h => Lib.hid (C5.out q W h)
              have D4 := fun W h => Lib.hid (C6.out q W h)
              rw [← E2] at D4
              rw [show ((r + 1 : Nat) : Int) = (r : Int) + 1 from by omega] at D1 D2
              have D5 := fun W h => Lib.hid (C7.out q W h)
              have D6 := fun W h => Lib.hid (C8.out q W h)
              rw [← HPC.out] at D6
              generalize cutS t q = tq at *
              clear E1 E2 C5 C6 C7 C8 HPC HPA HAP
              generalize atS t (r + 1) = z1 at *
              generalize atS t q = z2 at *
              have DD1 := Lib.hid D1
              have DD2 := Lib.hid D2
              have DD3 := Lib.hid D3
              have DD4 := Lib.hid D4
              have DD5 := Lib.hid D5
              have DD6 := Lib.hid D6
              clear D1 D2 D3 D4 D5 D6
              have gy : (((z1 : Nat) : Int) != ((z1 : Nat) : Int)) = false := by simp
              have gz : (((z2 : Nat) : Int) != ((z2 : Nat) : Int)) = false := by simp
              go_wp2_with fail
              with_reducible refine ((DD1.out _ (HT.out.below B7.out)).out).mono ?_
              rintro x w8 ⟨rfl, hb⟩
              have B8 := Lib.hid (B7.out.trans (hb.mono B7.out.size))
              clear hb
              go_wp2_with fail
              with_reducible refine ((DD2.out _ (HU.out.below B8.out)).out).mono ?_
              rintro x w9 ⟨rfl, hb⟩
              have B9 := Lib.hid (B8.out.trans (hb.mono B8.out.size))
              clear hb
              go_wp2_with fail
              with_reducible refine ((DD3.out _ (HT.out.below B9.out)).out).mono ?_
              rintro x w10 ⟨rfl, hb⟩
              have B10 := Lib.hid (B9.out.trans (hb.mono B9.out.size))
              clear hb
              go_wp2_with fail
              with_reducible refine ((DD4.out _ (HU.out.below B10.out)).out).mono ?_
              rintro x w11 ⟨rfl, hb⟩
              have B11 := Lib.hid (B10.out.trans (hb.mono B10.out.size))
              clear hb
              go_wp2_with fail
              with_reducible refine ((DD5.out _ (HT.out.below B11.out)).out).mono ?_
              rintro x w12 ⟨v1, rfl, ho1, hb⟩
              have B12 := Lib.hid (B11.out.trans (hb.mono B11.out.size))
              clear hb
              obtain ⟨A1, c1, rfl, hX, _⟩ := ho1.slice
              have HX := Lib.hid hX
              clear ho1 hX
              go_wp2_with fail
              with_reducible refine ((DD6.out _ (HU.out.below B12.out)).out).mono ?_
              rintro x w13 ⟨v2, rfl, ho2, hb⟩
              have HX2 := Lib.hid (HX.out.below hb)
              have B13 := Lib.hid (B12.out.trans (hb.mono B12.out.size))
              clear hb
              obtain ⟨A2, c2, rfl, hX, _⟩ := ho2.slice
              have C9 := Lib.hid (same_any A1 A2 tq.length tq.length c1 c2 tq tq w13 HX2.out hX (by have := HCL.out; omega) (by have := HCL.out; omega))
              rw [show decide (tq = tq) = true from by simp] at C9
              clear ho2 hX HX
              generalize tq.length = qn at *
              go_wp2_with fail
              with_reducible refine (C9.out).mono ?_
              rintro x w14 ⟨rfl, hb⟩
              have B14 := Lib.hid (B13.out.trans (hb.mono B13.out.size))
              clear hb
              go_wp2_with fail
              with_reducible refine (known_any _).mono ?_
              rintro x w15 ⟨rfl, hb⟩
              have B15 := Lib.hid (B14.out.trans (hb.mono B14.out.size))
              clear hb
              go_wp2
              go_ret
              exact ⟨rfl, B15.out⟩
          · have g11 : decide ((q : Int) < (l2 : Int)) = false := by rw [decide_eq_false_iff_not]; omega
            have g12 : decide (q < l2) = false := by rw [decide_eq_false_iff_not]; omega
            by_cases h0 : q = 0
            · have g13 : (((q : Nat) : Int) == 0) = true := by rw [beq_iff_eq]; omega
              clear h0
              go_wp2_with fail
              with_reducible refine (known_any _).mono ?_
              rintro x w6 ⟨rfl, hb⟩
              have B6 := Lib.hid (B5.out.trans (hb.mono B5.out.size))
              clear hb
              go_wp2
              go_ret
              exact ⟨rfl, B6.out⟩
            · have g14 : (((q : Nat) : Int) == 0) = false := by rw [beq_eq_false_iff_ne]; omega
              obtain ⟨r, hr⟩ : ∃ r, x0 % q = r := ⟨_, rfl⟩
              have hrq : r < q := by rw [← hr]; exact Nat.mod_lt _ (by omega)
              have hrem : (x0 : Int) % (q : Int) = (r : Int) := by omega
              have hrem2 : (x0 : Int).tmod (q : Int) = (r : Int) := by rw [Int.tmod_eq_emod_of_nonneg (by omega)]; exact hrem
              clear hr
              have E1 := HPA.out (r + 1) (by omega)
              have E2 := HPA.out q (Nat.le_refl _)
              have D1 := fun W h => Lib.hid (C5.out (r + 1) W h)
              have D2 := fun W h => Lib.hid (C6.out (r + 1) W h)
              rw [← E1] at D2
              have D3 := fun W h => Lib.hid (C5.out q W h)
              have D4 := fun W h => Lib.hid (C6.out q W h)
              rw [← E2] at D4
              rw [show ((r + 1 : Nat) : Int) = (r : Int) + 1 from by omega] at D1 D2
              have D5 := fun W h => Lib.hid (C7.out q W h)
              have D6 := fun W h => Lib.hid (C8.out q W h)
              rw [← HPC.out] at D6
              generalize cutS t q = tq at *
              clear E1 E2 C5 C6 C7 C8 HPC HPA HAP
              generalize atS t (r + 1) = z1 at *
              generalize atS t q = z2 at *
              have DD1 := Lib.hid D1
              have DD2 := Lib.hid D2
              have DD3 := Lib.hid D3
              have DD4 := Lib.hid D4
              have DD5 := Lib.hid D5
              have DD6 := Lib.hid D6
              clear D1 D2 D3 D4 D5 D6
              have gy : (((z1 : Nat) : Int) != ((z1 : Nat) : Int)) = false := by simp
              have gz : (((z2 : Nat) : Int) != ((z2 : Nat) : Int)) = false := by simp
              go_wp2_with fail
              with_reducible refine ((DD1.out _ (HT.out.below B5.out)).out).mono ?_
              rintro x w6 ⟨rfl, hb⟩
              have B6 := Lib.hid (B5.out.trans (hb.mono B5.out.size))
              clear hb
              go_wp2_with fail
              with_reducible refine ((DD2.out _ (HU.out.below B6.out)).out).mono ?_
              rintro x w7 ⟨rfl, hb⟩
              have B7 := Lib.hid (B6.out.trans (hb.mono B6.out.size))
              clear hb
              go_wp2_with fail
              with_reducible refine ((DD3.out _ (HT.out.below B7.out)).out).mono ?_
              rintro x w8 ⟨rfl, hb⟩
              have B8 := Lib.hid (B7.out.trans (hb.mono B7.out.size))
              clear hb
              go_wp2_with fail
              with_reducible refine ((DD4.out _ (HU.out.below B8.out)).out).mono ?_
              rintro x w9 ⟨rfl, hb⟩
              have B9 := Lib.hid (B8.out.trans (hb.mono B8.out.size))
              clear hb
              go_wp2_with fail
              with_reducible refine ((DD5.out _ (HT.out.below B9.out)).out).mono ?_
              rintro x w10 ⟨v1, rfl, ho1, hb⟩
              have B10 := Lib.hid (B9.out.trans (hb.mono B9.out.size))
              clear hb
              obtain ⟨A1, c1, rfl, hX, _⟩ := ho1.slice
              have HX := Lib.hid hX
              clear ho1 hX
              go_wp2_with fail
              with_reducible refine ((DD6.out _ (HU.out.below B10.out)).out).mono ?_
              rintro x w11 ⟨v2, rfl, ho2, hb⟩
              have HX2 := Lib.hid (HX.out.below hb)
              have B11 := Lib.hid (B10.out.trans (hb.mono B10.out.size))
              clear hb
              obtain ⟨A2, c2, rfl, hX, _⟩ := ho2.slice
              have C9 := Lib.hid (same_any A1 A2 tq.length tq.length c1 c2 tq tq w11 HX2.out hX (by have := HCL.out; omega) (by have := HCL.out; omega))
              rw [show decide (tq = tq) = true from by simp] at C9
              clear ho2 hX HX
              generalize tq.length = qn at *
              go_wp2_with fail
              with_reducible refine (C9.out).mono ?_
              rintro x w12 ⟨rfl, hb⟩
              have B12 := Lib.hid (B11.out.trans (hb.mono B11.out.size))
              clear hb
              go_wp2_with fail
              with_reducible refine (known_any _).mono ?_
              rintro x w13 ⟨rfl, hb⟩
              have B13 := Lib.hid (B12.out.trans (hb.mono B12.out.size))
              clear hb
              go_wp2
              go_ret
              exact ⟨rfl, B13.out⟩
        · have g15 : decide ((q : Int) < (l : Int)) = false := by rw [decide_eq_false_iff_not]; omega
          have g16 : decide (q < l) = false := by rw [decide_eq_false_iff_not]; omega
          by_cases h0 : q = 0
          · have g17 : (((q : Nat) : Int) == 0) = true := by rw [beq_iff_eq]; omega
            clear h0
            go_wp2_with fail
            with_reducible refine (known_any _).mono ?_
            rintro x w6 ⟨rfl, hb⟩
            have B6 := Lib.hid (B5.out.trans (hb.mono B5.out.size))
            clear hb
            go_wp2
            go_ret
            exact ⟨rfl, B6.out⟩
          · have g18 : (((q : Nat) : Int) == 0) = false := by rw [beq_eq_false_iff_ne]; omega
            obtain ⟨r, hr⟩ : ∃ r, x0 % q = r := ⟨_, rfl⟩
            have hrq : r < q := by rw [← hr]; exact Nat.mod_lt _ (by omega)
            have hrem : (x0 : Int) % (q : Int) = (r : Int) := by omega
            have hrem2 : (x0 : Int).tmod (q : Int) = (r : Int) := by rw [Int.tmod_eq_emod_of_nonneg (by omega)]; exact hrem
            clear hr
            have E1 := HPA.out (r + 1) (by omega)
            have E2 := HPA.out q (Nat.le_refl _)
            have D1 := fun W h => Lib.hid (C5.out (r + 1) W h)
            have D2 := fun W h => Lib.hid (C6.out (r + 1) W h)
            rw [← E1] at D2
            have D3 := fun W h => Lib.hid (C5.out q W h)
            have D4 := fun W h => Lib.hid (C6.out q W h)
            rw [← E2] at D4
            rw [show ((r + 1 : Nat) : Int) = (r : Int) + 1 from by omega] at D1 D2
            have D5 := fun W h => Lib.hid (C7.out q W h)
            have D6 := fun W h => Lib.hid (C8.out q W h)
            rw [← HPC.out] at D6
            generalize cutS t q = tq at *
            clear E1 E2 C5 C6 C7 C8 HPC HPA HAP
            generalize atS t (r + 1) = z1 at *
            generalize atS t q = z2 at *
            have DD1 := Lib.hid D1
            have DD2 := Lib.hid D2
            have DD3 := Lib.hid D3
            have DD4 := Lib.hid D4
            have DD5 := Lib.hid D5
            have DD6 := Lib.hid D6
            clear D1 D2 D3 D4 D5 D6
            have gy : (((z1 : Nat) : Int) != ((z1 : Nat) : Int)) = false := by simp
            have gz : (((z2 : Nat) : Int) != ((z2 : Nat) : Int)) = false := by simp
            go_wp2_with fail
            with_reducible refine ((DD1.out _ (HT.out.below B5.out)).out).mono ?_
            rintro x w6 ⟨rfl, hb⟩
            have B6 := Lib.hid (B5.out.trans (hb.mono B5.out.size))
            clear hb
            go_wp2_with fail
            with_reducible refine ((DD2.out _ (HU.out.below B6.out)).out).mono ?_
            rintro x w7 ⟨rfl, hb⟩
            have B7 := Lib.hid (B6.out.trans (hb.mono B6.out.size))
            clear hb
            go_wp2_with fail
            with_reducible refine ((DD3.out _ (HT.out.below B7.out)).out).mono ?_
            rintro x w8 ⟨rfl, hb⟩
            have B8 := Lib.hid (B7.out.trans (hb.mono B7.out.size))
            clear hb
            go_wp2_with fail
            with_reducible refine ((DD4.out _ (HU.out.below B8.out)).out).mono ?_
            rintro x w9 ⟨rfl, hb⟩
            have B9 := Lib.hid (B8.out.trans (hb.mono B8.out.size))
            clear hb
            go_wp2_with fail
            with_reducible refine ((DD5.out _ (HT.out.below B9.out)).out).mono ?_
            rintro x w10 ⟨v1, rfl, ho1, hb⟩
            have B10 := Lib.hid (B9.out.trans (hb.mono B9.out.size))
            clear hb
            obtain ⟨A1, c1, rfl, hX, _⟩ := ho1.slice
            have HX := Lib.hid hX
            clear ho1 hX
            go_wp2_with fail
            with_reducible refine ((DD6.out _ (HU.out.below B10.out)).out).mono ?_
            rintro x w11 ⟨v2, rfl, ho2, hb⟩
            have HX2 := Lib.hid (HX.out.below hb)
            have B11 := Lib.hid (B10.out.trans (hb.mono B10.out.size))
            clear hb
            obtain ⟨A2, c2, rfl, hX, _⟩ := ho2.slice
            have C9 := Lib.hid (same_any A1 A2 tq.length tq.length c1 c2 tq tq w11 HX2.out hX (by have := HCL.out; omega) (by have := HCL.out; omega))
            rw [show decide (tq = tq) = true from by simp] at C9
            clear ho2 hX HX
            generalize tq.length = qn at *
            go_wp2_with fail
            with_reducible refine (C9.out).mono ?_
            rintro x w12 ⟨rfl, hb⟩
            have B12 := Lib.hid (B11.out.trans (hb.mono B11.out.size))
            clear hb
            go_wp2_with fail
            with_reducible refine (known_any _).mono ?_
            rintro x w13 ⟨rfl, hb⟩
            have B13 := Lib.hid (B12.out.trans (hb.mono B12.out.size))
            clear hb
            go_wp2
            go_ret
            exact ⟨rfl, B13.out⟩
      · clear hM hc
        rw [hd] at C2
        clear hM2 hd
        go_enter Try.func6, Try.ntmps6
        go_wp2_with fail
        with_reducible refine (C0.out).mono ?_
        rintro x w1 ⟨rfl, rfl⟩
        go_wp2_with fail
        with_reducible refine (C1.out).mono ?_
        rintro x w2 ⟨rfl, hb⟩
        have B2 := Lib.hid (B0.out.trans (hb.mono B0.out.size))
        clear hb
        rw [show ((0 : Nat) : Int) = 0 from rfl]
        go_wp2_with fail
        with_reducible refine (C2.out _ (HU.out.below B2.out)).mono ?_
        rintro x w3 ⟨rfl, hb⟩
        have B3 := Lib.hid (B2.out.trans (hb.mono B2.out.size))
        clear hb
        rw [show ((60 : Nat) : Int) = 60 from rfl]
        go_wp2_with fail
        with_reducible refine (known_any _).mono ?_
        rintro x w4 ⟨rfl, hb⟩
        have B4 := Lib.hid (B3.out.trans (hb.mono B3.out.size))
        clear hb
        go_wp2
        go_ret
        exact ⟨rfl, B4.out⟩
    · rw [hc] at C1
      clear hM hc
      go_enter Try.func6, Try.ntmps6
      go_wp2_with fail
      with_reducible refine (C0.out).mono ?_
      rintro x w1 ⟨rfl, rfl⟩
      go_wp2_with fail
      with_reducible refine (C1.out).mono ?_
      rintro x w2 ⟨rfl, hb⟩
      have B2 := Lib.hid (B0.out.trans (hb.mono B0.out.size))
      clear hb
      rw [show ((60 : Nat) : Int) = 60 from rfl]
      go_wp2_with fail
      with_reducible refine (known_any _).mono ?_
      rintro x w3 ⟨rfl, hb⟩
      have B3 := Lib.hid (B2.out.trans (hb.mono B2.out.size))
      clear hb
      go_wp2
      go_ret
      exact ⟨rfl, B3.out⟩

end Go.Proofs.Ytngnfgnaagbpjaa
