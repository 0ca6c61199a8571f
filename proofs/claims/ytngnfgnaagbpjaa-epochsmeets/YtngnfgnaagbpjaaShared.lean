/-
  The contract of shared: for all slices of starts.
-/
import Derived.Test.YtngnfgnaagbpjaaEq
import Derived.Test.YtngnfgnaagbpjaaMtMath
namespace Go.Proofs.Ytngnfgnaagbpjaa
open Go.RowKit
set_option linter.unusedVariables false

def Sh1 (w : World) (n m : Nat) (a b : Tbl) (i : Value) (wr : World) : Prop :=
  ∃ k : Nat, k ≤ n ∧ k ≤ m ∧ i = .int .i64 k ∧ (∀ j, j < k → sameAt a b j) ∧ Below w.heap.size w wr
def Sh2 (w : World) (n m c : Nat) (a b : Tbl) (i : Value) (wr : World) : Prop :=
  ∃ k : Nat, c ≤ k ∧ k ≤ n ∧ i = .int .i64 k ∧ (∀ j, c ≤ j → j < k → ∀ q, c ≤ q → q < m → ep a j ≠ ep b q) ∧ Below w.heap.size w wr
def Sh3 (w : World) (m c i : Nat) (a b : Tbl) (x : Value) (wr : World) : Prop :=
  ∃ k : Nat, c ≤ k ∧ k ≤ m ∧ x = .int .i64 k ∧ (∀ q, c ≤ q → q < k → ep a i ≠ ep b q) ∧ Below w.heap.size w wr
def ShPost (w : World) (a b : Tbl) (x : Ending) (w' : World) : Prop := ∃ r : Bool, x = .returned (.bool r) ∧ (r = true ↔ Shr a b (com a b)) ∧ Below w.heap.size w w'

set_option maxRecDepth 100000 in
set_option maxHeartbeats 8000000 in
theorem shared_any (A B : Option Addr) (n m cA cB : Nat) (a b : Tbl) (w : World) (hA : Tab w A n a) (hB : Tab w B m b) (hn : n ≤ 1000000) (hm : m ≤ 1000000) :
    Calls Try.prog 26 #[.slice A n cA, .slice B m cB] w (ShPost w a b) := by
  have HA := Lib.hid hA
  have HB := Lib.hid hB
  have HLA := Lib.hid hA.1
  have HLB := Lib.hid hB.1
  clear hA hB
  go_enter Try.func26, Try.ntmps26
  go_wp2_with fail
  go_loopw [5] (Sh1 w n m a b) (fun i _ => n - (intOf i).toNat)
  case atStart => exact ⟨0, by omega, by omega, rfl, (fun j h => by omega), Below.refl _ _⟩
  case round =>
    obtain ⟨k, hk, hk', rfl, hall, hbel⟩ := hrel
    have HALL := Lib.hid hall
    have HBE := Lib.hid hbel
    clear hall hbel
    by_cases hlt : k < n
    · have g1 : decide ((k : Int) < (n : Int)) = true := by rw [decide_eq_true_iff]; omega
      have g2 : decide (k < n) = true := by rw [decide_eq_true_iff]; omega
      by_cases hlt' : k < m
      · have g3 : decide ((k : Int) < (m : Int)) = true := by rw [decide_eq_true_iff]; omega
        have g4 : decide (k < m) = true := by rw [decide_eq_true_iff]; omega
        obtain ⟨b1, o1, rfl, hat1⟩ := (HA.out.below HBE.out).2.2 (by omega)
        obtain ⟨b2, o2, rfl, hat2⟩ := (HB.out.below HBE.out).2.2 (by omega)
        obtain ⟨d0, d1⟩ := hat1 k (by omega)
        obtain ⟨f0, f1⟩ := hat2 k (by omega)
        have hi : (k : Int) < (n : Int) := by omega
        have hi2 : (k : Int) < (m : Int) := by omega
        have hne := fun W => run_eql37 (ep a k) (ls a k) (ep b k) (ls b k) W
        have hgd := guard37
        have HS : Hid (decide (ep a k = ep b k ∧ ls a k = ls b k) = decide (sameAt a b k)) := Lib.hid rfl
        rw [HS.out] at hne
        by_cases hs : sameAt a b k
        · rw [show decide (sameAt a b k) = true from by rw [decide_eq_true_iff]; exact hs] at hne
          have HSS := Lib.hid hs
          clear hat1 hat2 HS hs
          obtain ⟨e1, he1⟩ : ∃ x, ep a k = x := ⟨_, rfl⟩
          obtain ⟨l1, hl1⟩ : ∃ x, ls a k = x := ⟨_, rfl⟩
          obtain ⟨e2, he2⟩ : ∃ x, ep b k = x := ⟨_, rfl⟩
          obtain ⟨l2, hl2⟩ : ∃ x, ls b k = x := ⟨_, rfl⟩
          rw [he1, hl1, he2, hl2] at hne
          rw [he1] at d0
          rw [hl1] at d1
          rw [he2] at f0
          rw [hl2] at f1
          clear he1 hl1 he2 hl2
          go_wp2_with fail
          go_quiet (fail)
          clear hne hgd d0 d1 f0 f1
          go_wp2
          go_roundw
          case rel =>
            refine ⟨k + 1, by omega, by omega, by go_num, fun j hj => ?_, below_drewN HBE.out _⟩
            by_cases hjk : j = k
            · subst hjk; exact HSS.out
            · exact HALL.out j (by omega)
          case measure => simp [intOf]; omega
        · rw [show decide (sameAt a b k) = false from by rw [decide_eq_false_iff_not]; exact hs] at hne
          have HCOM : Hid (Com a b k) := Lib.hid ⟨by rw [HLA.out]; omega, by rw [HLB.out]; omega, HALL.out, fun _ _ => hs⟩
          clear hat1 hat2 HS hs
          obtain ⟨e1, he1⟩ : ∃ x, ep a k = x := ⟨_, rfl⟩
          obtain ⟨l1, hl1⟩ : ∃ x, ls a k = x := ⟨_, rfl⟩
          obtain ⟨e2, he2⟩ : ∃ x, ep b k = x := ⟨_, rfl⟩
          obtain ⟨l2, hl2⟩ : ∃ x, ls b k = x := ⟨_, rfl⟩
          rw [he1, hl1, he2, hl2] at hne
          rw [he1] at d0
          rw [hl1] at d1
          rw [he2] at f0
          rw [hl2] at f1
          clear he1 hl1 he2 hl2
          go_wp2_with fail
          go_quiet (fail)
          clear hne hgd d0 d1 f0 f1
          have HC := Lib.hid (com_is a b)
          have HCC := Lib.hid (HC.out.uniq HCOM.out)
          obtain ⟨hka, hkb, _, _⟩ := HCOM.out
          rw [HLA.out] at hka
          rw [HLB.out] at hkb
          have BX := Lib.hid HBE.out
          clear HBE
          go_wp2_with fail
          go_loopw [6] (Sh2 w n m k a b) (fun i _ => n - (intOf i).toNat)
          case atStart => exact ⟨k, Nat.le_refl _, hka, rfl, (fun i h1 h2 => by omega), below_drewN BX.out _⟩
          case round =>
            obtain ⟨i, hi1, hi2, rfl, hall2, hbel⟩ := hrel
            have HALL2 := Lib.hid hall2
            have HBE := Lib.hid hbel
            clear hall2 hbel
            by_cases hlt2 : i < n
            · have hin : (i : Int) < (n : Int) := by omega
              have g5 : decide ((i : Int) < (n : Int)) = true := by rw [decide_eq_true_iff]; omega
              have g6 : decide (i < n) = true := by rw [decide_eq_true_iff]; omega
              go_wp2_with fail
              go_loopw [7] (Sh3 w m k i a b) (fun q _ => m - (intOf q).toNat)
              case atStart => exact ⟨k, Nat.le_refl _, hkb, rfl, (fun q h1 h2 => by omega), HBE.out⟩
              case round =>
                obtain ⟨q, hq1, hq2, rfl, hall3, hbel3⟩ := hrel
                have HALL3 := Lib.hid hall3
                have HBE3 := Lib.hid hbel3
                clear hall3 hbel3
                by_cases hlt3 : q < m
                · obtain ⟨b1, o1, ha1, hat1⟩ := (HA.out.below HBE3.out).2.2 (by omega)
                  first | subst ha1 | (injection ha1 with ha1; injection ha1 with y1 y2 _; subst y1 y2)
                  obtain ⟨b2, o2, ha2, hat2⟩ := (HB.out.below HBE3.out).2.2 (by omega)
                  first | subst ha2 | (injection ha2 with ha2; injection ha2 with y1 y2 _; subst y1 y2)
                  obtain ⟨d0, _⟩ := hat1 i (by omega)
                  obtain ⟨f0, _⟩ := hat2 q (by omega)
                  have hqm : (q : Int) < (m : Int) := by omega
                  clear hat1 hat2
                  by_cases hs : ep a i = ep b q
                  · have HSS' := Lib.hid hs
                    have gq : (((ep a i : Nat) : Int) == ((ep b q : Nat) : Int)) = true := by rw [beq_iff_eq]; omega
                    clear hs
                    obtain ⟨e1, he1⟩ : ∃ e1, ep a i = e1 := ⟨_, rfl⟩
                    obtain ⟨e2, he2⟩ : ∃ e2, ep b q = e2 := ⟨_, rfl⟩
                    rw [he1] at d0 gq
                    rw [he2] at f0 gq
                    clear he1 he2
                    go_wp2_with fail
                    go_quiet (fail)
                    clear d0 f0
                    go_wp2
                    go_ret
                    exact ⟨false, rfl, (by rw [HCC.out]; exact ⟨(fun h => by cases h), (fun h => absurd HSS'.out (h i hi1 (by rw [HLA.out]; omega) q hq1 (by rw [HLB.out]; omega)))⟩), below_drewN HBE3.out _⟩
                  · have HSS := Lib.hid hs
                    have gq : (((ep a i : Nat) : Int) == ((ep b q : Nat) : Int)) = false := by rw [beq_eq_false_iff_ne]; omega
                    clear hs
                    obtain ⟨e1, he1⟩ : ∃ e1, ep a i = e1 := ⟨_, rfl⟩
                    obtain ⟨e2, he2⟩ : ∃ e2, ep b q = e2 := ⟨_, rfl⟩
                    rw [he1] at d0 gq
                    rw [he2] at f0 gq
                    clear he1 he2
                    go_wp2_with fail
                    go_quiet (fail)
                    clear d0 f0
                    go_wp2
                    go_roundw
                    case rel =>
                      refine ⟨q + 1, by omega, by omega, by go_num, fun j h1 h2 => ?_, below_drewN HBE3.out _⟩
                      by_cases hj : j = q
                      · subst hj; exact HSS.out
                      · exact HALL3.out j h1 (by omega)
                    case measure => simp [intOf]; omega
                · have g7 : decide ((q : Int) < (m : Int)) = false := by rw [decide_eq_false_iff_not]; omega
                  have g8 : decide (q < m) = false := by rw [decide_eq_false_iff_not]; omega
                  have hqe : q = m := by omega
                  have HROW : Hid (∀ j, k ≤ j → j < m → ep a i ≠ ep b j) := Lib.hid (fun j h1 h2 => HALL3.out j h1 (by omega))
                  clear hqe
                  go_wp2
                  go_roundw
                  case rel =>
                    refine ⟨i + 1, by omega, by omega, by go_num, fun j h1 h2 => ?_, HBE3.out⟩
                    by_cases hj : j = i
                    · subst hj; exact HROW.out
                    · exact HALL2.out j h1 (by omega)
                  case measure => simp [intOf]; omega
            · have g9 : decide ((i : Int) < (n : Int)) = false := by rw [decide_eq_false_iff_not]; omega
              have g10 : decide (i < n) = false := by rw [decide_eq_false_iff_not]; omega
              go_wp2
              go_ret
              exact ⟨true, rfl, (by rw [HCC.out]; exact ⟨(fun _ i' h1 h2 k' h3 h4 => HALL2.out i' h1 (by rw [HLA.out] at h2; omega) k' h3 (by rw [HLB.out] at h4; exact h4)), (fun _ => rfl)⟩), HBE.out⟩
      · have g11 : decide ((k : Int) < (m : Int)) = false := by rw [decide_eq_false_iff_not]; omega
        have g12 : decide (k < m) = false := by rw [decide_eq_false_iff_not]; omega
        have HCOM : Hid (Com a b k) := Lib.hid ⟨by rw [HLA.out]; omega, by rw [HLB.out]; omega, HALL.out, fun _ h2 => by rw [HLB.out] at h2; omega⟩
        go_wp2_with fail
        go_quiet (fail)
        have HC := Lib.hid (com_is a b)
        have HCC := Lib.hid (HC.out.uniq HCOM.out)
        obtain ⟨hka, hkb, _, _⟩ := HCOM.out
        rw [HLA.out] at hka
        rw [HLB.out] at hkb
        have BX := Lib.hid HBE.out
        clear HBE
        go_wp2_with fail
        go_loopw [6] (Sh2 w n m k a b) (fun i _ => n - (intOf i).toNat)
        case atStart => exact ⟨k, Nat.le_refl _, hka, rfl, (fun i h1 h2 => by omega), below_drewN BX.out _⟩
        case round =>
          obtain ⟨i, hi1, hi2, rfl, hall2, hbel⟩ := hrel
          have HALL2 := Lib.hid hall2
          have HBE := Lib.hid hbel
          clear hall2 hbel
          by_cases hlt2 : i < n
          · have hin : (i : Int) < (n : Int) := by omega
            have g13 : decide ((i : Int) < (n : Int)) = true := by rw [decide_eq_true_iff]; omega
            have g14 : decide (i < n) = true := by rw [decide_eq_true_iff]; omega
            go_wp2_with fail
            go_loopw [7] (Sh3 w m k i a b) (fun q _ => m - (intOf q).toNat)
            case atStart => exact ⟨k, Nat.le_refl _, hkb, rfl, (fun q h1 h2 => by omega), HBE.out⟩
            case round =>
              obtain ⟨q, hq1, hq2, rfl, hall3, hbel3⟩ := hrel
              have HALL3 := Lib.hid hall3
              have HBE3 := Lib.hid hbel3
              clear hall3 hbel3
              by_cases hlt3 : q < m
              · obtain ⟨b1, o1, ha1, hat1⟩ := (HA.out.below HBE3.out).2.2 (by omega)
                first | subst ha1 | (injection ha1 with ha1; injection ha1 with y1 y2 _; subst y1 y2)
                obtain ⟨b2, o2, ha2, hat2⟩ := (HB.out.below HBE3.out).2.2 (by omega)
                first | subst ha2 | (injection ha2 with ha2; injection ha2 with y1 y2 _; subst y1 y2)
                obtain ⟨d0, _⟩ := hat1 i (by omega)
                obtain ⟨f0, _⟩ := hat2 q (by omega)
                have hqm : (q : Int) < (m : Int) := by omega
                clear hat1 hat2
                by_cases hs : ep a i = ep b q
                · have HSS' := Lib.hid hs
                  have gq : (((ep a i : Nat) : Int) == ((ep b q : Nat) : Int)) = true := by rw [beq_iff_eq]; omega
                  clear hs
                  obtain ⟨e1, he1⟩ : ∃ e1, ep a i = e1 := ⟨_, rfl⟩
                  obtain ⟨e2, he2⟩ : ∃ e2, ep b q = e2 := ⟨_, rfl⟩
                  rw [he1] at d0 gq
                  rw [he2] at f0 gq
                  clear he1 he2
                  go_wp2_with fail
                  go_quiet (fail)
                  clear d0 f0
                  go_wp2
                  go_ret
                  exact ⟨false, rfl, (by rw [HCC.out]; exact ⟨(fun h => by cases h), (fun h => absurd HSS'.out (h i hi1 (by rw [HLA.out]; omega) q hq1 (by rw [HLB.out]; omega)))⟩), below_drewN HBE3.out _⟩
                · have HSS := Lib.hid hs
                  have gq : (((ep a i : Nat) : Int) == ((ep b q : Nat) : Int)) = false := by rw [beq_eq_false_iff_ne]; omega
                  clear hs
                  obtain ⟨e1, he1⟩ : ∃ e1, ep a i = e1 := ⟨_, rfl⟩
                  obtain ⟨e2, he2⟩ : ∃ e2, ep b q = e2 := ⟨_, rfl⟩
                  rw [he1] at d0 gq
                  rw [he2] at f0 gq
                  clear he1 he2
                  go_wp2_with fail
                  go_quiet (fail)
                  clear d0 f0
                  go_wp2
                  go_roundw
                  case rel =>
                    refine ⟨q + 1, by omega, by omega, by go_num, fun j h1 h2 => ?_, below_drewN HBE3.out _⟩
                    by_cases hj : j = q
                    · subst hj; exact HSS.out
                    · exact HALL3.out j h1 (by omega)
                  case measure => simp [intOf]; omega
              · have g15 : decide ((q : Int) < (m : Int)) = false := by rw [decide_eq_false_iff_not]; omega
                have g16 : decide (q < m) = false := by rw [decide_eq_false_iff_not]; omega
                have hqe : q = m := by omega
                have HROW : Hid (∀ j, k ≤ j → j < m → ep a i ≠ ep b j) := Lib.hid (fun j h1 h2 => HALL3.out j h1 (by omega))
                clear hqe
                go_wp2
                go_roundw
                case rel =>
                  refine ⟨i + 1, by omega, by omega, by go_num, fun j h1 h2 => ?_, HBE3.out⟩
                  by_cases hj : j = i
                  · subst hj; exact HROW.out
                  · exact HALL2.out j h1 (by omega)
                case measure => simp [intOf]; omega
          · have g17 : decide ((i : Int) < (n : Int)) = false := by rw [decide_eq_false_iff_not]; omega
            have g18 : decide (i < n) = false := by rw [decide_eq_false_iff_not]; omega
            go_wp2
            go_ret
            exact ⟨true, rfl, (by rw [HCC.out]; exact ⟨(fun _ i' h1 h2 k' h3 h4 => HALL2.out i' h1 (by rw [HLA.out] at h2; omega) k' h3 (by rw [HLB.out] at h4; exact h4)), (fun _ => rfl)⟩), HBE.out⟩
    · have g19 : decide ((k : Int) < (n : Int)) = false := by rw [decide_eq_false_iff_not]; omega
      have g20 : decide (k < n) = false := by rw [decide_eq_false_iff_not]; omega
      have HCOM : Hid (Com a b k) := Lib.hid ⟨by rw [HLA.out]; omega, by rw [HLB.out]; omega, HALL.out, fun h1 _ => by rw [HLA.out] at h1; omega⟩
      go_wp2_with fail
      go_quiet (fail)
      have HC := Lib.hid (com_is a b)
      have HCC := Lib.hid (HC.out.uniq HCOM.out)
      obtain ⟨hka, hkb, _, _⟩ := HCOM.out
      rw [HLA.out] at hka
      rw [HLB.out] at hkb
      have BX := Lib.hid HBE.out
      clear HBE
      go_wp2_with fail
      go_loopw [6] (Sh2 w n m k a b) (fun i _ => n - (intOf i).toNat)
      case atStart => exact ⟨k, Nat.le_refl _, hka, rfl, (fun i h1 h2 => by omega), below_drewN BX.out _⟩
      case round =>
        obtain ⟨i, hi1, hi2, rfl, hall2, hbel⟩ := hrel
        have HALL2 := Lib.hid hall2
        have HBE := Lib.hid hbel
        clear hall2 hbel
        by_cases hlt2 : i < n
        · have hin : (i : Int) < (n : Int) := by omega
          have g21 : decide ((i : Int) < (n : Int)) = true := by rw [decide_eq_true_iff]; omega
          have g22 : decide (i < n) = true := by rw [decide_eq_true_iff]; omega
          go_wp2_with fail
          go_loopw [7] (Sh3 w m k i a b) (fun q _ => m - (intOf q).toNat)
          case atStart => exact ⟨k, Nat.le_refl _, hkb, rfl, (fun q h1 h2 => by omega), HBE.out⟩
          case round =>
            obtain ⟨q, hq1, hq2, rfl, hall3, hbel3⟩ := hrel
            have HALL3 := Lib.hid hall3
            have HBE3 := Lib.hid hbel3
            clear hall3 hbel3
            by_cases hlt3 : q < m
            · obtain ⟨b1, o1, ha1, hat1⟩ := (HA.out.below HBE3.out).2.2 (by omega)
              first | subst ha1 | (injection ha1 with ha1; injection ha1 with y1 y2 _; subst y1 y2)
              obtain ⟨b2, o2, ha2, hat2⟩ := (HB.out.below HBE3.out).2.2 (by omega)
              first | subst ha2 | (injection ha2 with ha2; injection ha2 with y1 y2 _; subst y1 y2)
              obtain ⟨d0, _⟩ := hat1 i (by omega)
              obtain ⟨f0, _⟩ := hat2 q (by omega)
              have hqm : (q : Int) < (m : Int) := by omega
              clear hat1 hat2
              by_cases hs : ep a i = ep b q
              · have HSS' := Lib.hid hs
                have gq : (((ep a i : Nat) : Int) == ((ep b q : Nat) : Int)) = true := by rw [beq_iff_eq]; omega
                clear hs
                obtain ⟨e1, he1⟩ : ∃ e1, ep a i = e1 := ⟨_, rfl⟩
                obtain ⟨e2, he2⟩ : ∃ e2, ep b q = e2 := ⟨_, rfl⟩
                rw [he1] at d0 gq
                rw [he2] at f0 gq
                clear he1 he2
                go_wp2_with fail
                go_quiet (fail)
                clear d0 f0
                go_wp2
                go_ret
                exact ⟨false, rfl, (by rw [HCC.out]; exact ⟨(fun h => by cases h), (fun h => absurd HSS'.out (h i hi1 (by rw [HLA.out]; omega) q hq1 (by rw [HLB.out]; omega)))⟩), below_drewN HBE3.out _⟩
              · have HSS := Lib.hid hs
                have gq : (((ep a i : Nat) : Int) == ((ep b q : Nat) : Int)) = false := by rw [beq_eq_false_iff_ne]; omega
                clear hs
                obtain ⟨e1, he1⟩ : ∃ e1, ep a i = e1 := ⟨_, rfl⟩
                obtain ⟨e2, he2⟩ : ∃ e2, ep b q = e2 := ⟨_, rfl⟩
                rw [he1] at d0 gq
                rw [he2] at f0 gq
                clear he1 he2
                go_wp2_with fail
                go_quiet (fail)
                clear d0 f0
                go_wp2
                go_roundw
                case rel =>
                  refine ⟨q + 1, by omega, by omega, by go_num, fun j h1 h2 => ?_, below_drewN HBE3.out _⟩
                  by_cases hj : j = q
                  · subst hj; exact HSS.out
                  · exact HALL3.out j h1 (by omega)
                case measure => simp [intOf]; omega
            · have g23 : decide ((q : Int) < (m : Int)) = false := by rw [decide_eq_false_iff_not]; omega
              have g24 : decide (q < m) = false := by rw [decide_eq_false_iff_not]; omega
              have hqe : q = m := by omega
              have HROW : Hid (∀ j, k ≤ j → j < m → ep a i ≠ ep b j) := Lib.hid (fun j h1 h2 => HALL3.out j h1 (by omega))
              clear hqe
              go_wp2
              go_roundw
              case rel =>
                refine ⟨i + 1, by omega, by omega, by go_num, fun j h1 h2 => ?_, HBE3.out⟩
                by_cases hj : j = i
                · subst hj; exact HROW.out
                · exact HALL2.out j h1 (by omega)
              case measure => simp [intOf]; omega
        · have g25 : decide ((i : Int) < (n : Int)) = false := by rw [decide_eq_false_iff_not]; omega
          have g26 : decide (i < n) = false := by rw [decide_eq_false_iff_not]; omega
          go_wp2
          go_ret
          exact ⟨true, rfl, (by rw [HCC.out]; exact ⟨(fun _ i' h1 h2 k' h3 h4 => HALL2.out i' h1 (by rw [HLA.out] at h2; omega) k' h3 (by rw [HLB.out] at h4; exact h4)), (fun _ => rfl)⟩), HBE.out⟩

end Go.Proofs.Ytngnfgnaagbpjaa
