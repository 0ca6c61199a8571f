/-
  The contract of the document's Check: for every slice of starts.
-/
import Derived.Test.YtngnfgnaagbpjaaTab
namespace Go.Proofs.Ytngnfgnaagbpjaa
open Go.RowKit

def RchkR (w : World) (n : Nat) (t : Tbl) (i : Value) (wr : World) : Prop :=
  ∃ k : Nat, k ≤ n ∧ i = .int .i64 k ∧ (∀ j, j < k → okAt t j) ∧ Below w.heap.size w wr

set_option maxRecDepth 100000 in
set_option maxHeartbeats 4000000 in
theorem refCheck_any (a : Option Addr) (n cap : Nat) (t : Tbl) (w : World) (hT : Tab w a n t) (hn : n ≤ maxLen) :
    Calls Try.prog 16 #[.slice a n cap] w fun e w' => e = .returned (.int .i64 (chk t : Nat)) ∧ Below w.heap.size w w' := by
  unfold maxLen at hn
  have HT := Lib.hid hT
  have HLEN := Lib.hid hT.1
  clear hT
  go_enter Try.func16, Try.ntmps16
  go_wp2_with fail
  go_loopw [3] (RchkR w n t) (fun i _ => n - (intOf i).toNat)
  case atStart => exact ⟨0, by omega, rfl, (fun j h => by omega), Below.refl _ _⟩
  case round =>
    obtain ⟨k, hk, rfl, hall, hbel⟩ := hrel
    have HALL := Lib.hid hall
    have HBE := Lib.hid hbel
    clear hall hbel
    by_cases hlt : k < n
    · obtain ⟨b, off, rfl, hat⟩ := (HT.out.below HBE.out).2.2 (by omega)
      obtain ⟨d0, d1⟩ := hat k hlt
      obtain ⟨q, hq⟩ : ∃ q, k - 1 = q := ⟨_, rfl⟩
      have hpq : ∀ h0 : 0 < k, pE t k = ep t q ∧ pL t k = ls t q := fun h0 => by unfold pE pL; rw [if_neg (by omega), if_neg (by omega), hq]; exact ⟨rfl, rfl⟩
      have hpz : k = 0 → pE t k = 0 ∧ pL t k = 0 := fun h0 => by subst h0; exact ⟨rfl, rfl⟩
      obtain ⟨f0, f1⟩ := hat q (by omega)
      have hqk : 0 < k → q + 1 = k := by omega
      have hqn : q < n := by omega
      have hkn : (k : Int) < (n : Int) := by omega
      have hqn2 : (q : Int) < (n : Int) := by omega
      clear hat hq
      have HST := Lib.hid (fun h => chk_stop (t := t) (k := k) (by rw [HLEN.out]; exact hlt) h)
      have HOK : Hid ((pE t k < ep t k ∧ pL t k < ls t k) → okAt t k) := Lib.hid (fun h => h)
      have HNK : Hid (okAt t k → (pE t k < ep t k ∧ pL t k < ls t k)) := Lib.hid (fun h => h)
      generalize ep t k = e at *
      generalize ls t k = l at *
      generalize hpe : ep t q = pe at *
      generalize hpl : ls t q = pl at *
      generalize pE t k = qe at *
      generalize pL t k = ql at *
      clear hpe hpl
      by_cases h1 : e < 1
      · have h1' := h1
        have HNO := Lib.hid (HST.out (fun h => by have := HNK.out h; omega))
        have g0 : decide ((e : Int) < 1) = true := by rw [decide_eq_true_iff]; omega
        have g1 : decide (e < 1) = true := by rw [decide_eq_true_iff]; omega
        clear hpq hpz hqk
        go_wp2_with fail
        go_quiet (fail)
        go_wp2
        go_ret
        rw [HNO.out]
        exact ⟨rfl, below_drewN HBE.out _⟩
      · by_cases h2 : l < 1
        · have h2' := h2
          have HNO := Lib.hid (HST.out (fun h => by have := HNK.out h; omega))
          have g0 : decide ((e : Int) < 1) = false := by rw [decide_eq_false_iff_not]; omega
          have g1 : decide (e < 1) = false := by rw [decide_eq_false_iff_not]; omega
          have g2 : decide ((l : Int) < 1) = true := by rw [decide_eq_true_iff]; omega
          have g3 : decide (l < 1) = true := by rw [decide_eq_true_iff]; omega
          clear hpq hpz hqk
          go_wp2_with fail
          go_quiet (fail)
          go_wp2
          go_ret
          rw [HNO.out]
          exact ⟨rfl, below_drewN HBE.out _⟩
        · by_cases h3 : k = 0
          · have h3' := hpz h3
            have HGD := Lib.hid (HOK.out (by omega))
            have g0 : decide ((e : Int) < 1) = false := by rw [decide_eq_false_iff_not]; omega
            have g1 : decide (e < 1) = false := by rw [decide_eq_false_iff_not]; omega
            have g2 : decide ((l : Int) < 1) = false := by rw [decide_eq_false_iff_not]; omega
            have g3 : decide (l < 1) = false := by rw [decide_eq_false_iff_not]; omega
            have g4 : decide ((0 : Int) < (k : Int)) = false := by rw [decide_eq_false_iff_not]; omega
            have g5 : decide (0 < k) = false := by rw [decide_eq_false_iff_not]; omega
            clear hpq hpz hqk h3 h3'
            go_wp2_with fail
            go_quiet (fail)
            go_wp2
            go_roundw
            case rel =>
              refine ⟨k + 1, by omega, by go_num, fun j hj => ?_, below_drewN HBE.out _⟩
              by_cases hjk : j = k
              · subst hjk; exact HGD.out
              · exact HALL.out j (by omega)
            case measure => simp [intOf]; omega
          · obtain ⟨q1, q2⟩ := hpq (by omega)
            by_cases h4 : e ≤ pe
            · have h4' := h4
              have HNO := Lib.hid (HST.out (fun h => by have := HNK.out h; omega))
              have g0 : decide ((e : Int) < 1) = false := by rw [decide_eq_false_iff_not]; omega
              have g1 : decide (e < 1) = false := by rw [decide_eq_false_iff_not]; omega
              have g2 : decide ((l : Int) < 1) = false := by rw [decide_eq_false_iff_not]; omega
              have g3 : decide (l < 1) = false := by rw [decide_eq_false_iff_not]; omega
              have g4 : decide ((0 : Int) < (k : Int)) = true := by rw [decide_eq_true_iff]; omega
              have g5 : decide (0 < k) = true := by rw [decide_eq_true_iff]; omega
              have g6 : IntKind.i64.wrap ((k : Int) - 1) = (q : Int) := by rw [IntWalk.i64_in _ (by omega)]; have := hqk (by omega); omega
              have g7 : decide ((e : Int) ≤ (pe : Int)) = true := by rw [decide_eq_true_iff]; omega
              have g8 : decide (e ≤ pe) = true := by rw [decide_eq_true_iff]; omega
              clear hpq hpz hqk
              go_wp2_with fail
              go_quiet (fail)
              go_wp2
              go_ret
              rw [HNO.out]
              exact ⟨rfl, below_drewN HBE.out _⟩
            · by_cases h5 : l ≤ pl
              · have h5' := h5
                have HNO := Lib.hid (HST.out (fun h => by have := HNK.out h; omega))
                have g0 : decide ((e : Int) < 1) = false := by rw [decide_eq_false_iff_not]; omega
                have g1 : decide (e < 1) = false := by rw [decide_eq_false_iff_not]; omega
                have g2 : decide ((l : Int) < 1) = false := by rw [decide_eq_false_iff_not]; omega
                have g3 : decide (l < 1) = false := by rw [decide_eq_false_iff_not]; omega
                have g4 : decide ((0 : Int) < (k : Int)) = true := by rw [decide_eq_true_iff]; omega
                have g5 : decide (0 < k) = true := by rw [decide_eq_true_iff]; omega
                have g6 : IntKind.i64.wrap ((k : Int) - 1) = (q : Int) := by rw [IntWalk.i64_in _ (by omega)]; have := hqk (by omega); omega
                have g7 : decide ((e : Int) ≤ (pe : Int)) = false := by rw [decide_eq_false_iff_not]; omega
                have g8 : decide (e ≤ pe) = false := by rw [decide_eq_false_iff_not]; omega
                have g9 : decide ((l : Int) ≤ (pl : Int)) = true := by rw [decide_eq_true_iff]; omega
                have g10 : decide (l ≤ pl) = true := by rw [decide_eq_true_iff]; omega
                clear hpq hpz hqk
                go_wp2_with fail
                go_quiet (fail)
                go_wp2
                go_ret
                rw [HNO.out]
                exact ⟨rfl, below_drewN HBE.out _⟩
              · have h5' := h5
                have HGD := Lib.hid (HOK.out (by omega))
                have g0 : decide ((e : Int) < 1) = false := by rw [decide_eq_false_iff_not]; omega
                have g1 : decide (e < 1) = false := by rw [decide_eq_false_iff_not]; omega
                have g2 : decide ((l : Int) < 1) = false := by rw [decide_eq_false_iff_not]; omega
                have g3 : decide (l < 1) = false := by rw [decide_eq_false_iff_not]; omega
                have g4 : decide ((0 : Int) < (k : Int)) = true := by rw [decide_eq_true_iff]; omega
                have g5 : decide (0 < k) = true := by rw [decide_eq_true_iff]; omega
                have g6 : IntKind.i64.wrap ((k : Int) - 1) = (q : Int) := by rw [IntWalk.i64_in _ (by omega)]; have := hqk (by omega); omega
                have g7 : decide ((e : Int) ≤ (pe : Int)) = false := by rw [decide_eq_false_iff_not]; omega
                have g8 : decide (e ≤ pe) = false := by rw [decide_eq_false_iff_not]; omega
                have g9 : decide ((l : Int) ≤ (pl : Int)) = false := by rw [decide_eq_false_iff_not]; omega
                have g10 : decide (l ≤ pl) = false := by rw [decide_eq_false_iff_not]; omega
                clear hpq hpz hqk
                go_wp2_with fail
                go_quiet (fail)
                go_wp2
                go_roundw
                case rel =>
                  refine ⟨k + 1, by omega, by go_num, fun j hj => ?_, below_drewN HBE.out _⟩
                  by_cases hjk : j = k
                  · subst hjk; exact HGD.out
                  · exact HALL.out j (by omega)
                case measure => simp [intOf]; omega
    · have hkn : k = n := by omega
      subst hkn
      go_wp2
      go_ret
      rw [chk_all HLEN.out.symm HALL.out]
      exact ⟨rfl, HBE.out⟩

end Go.Proofs.Ytngnfgnaagbpjaa
