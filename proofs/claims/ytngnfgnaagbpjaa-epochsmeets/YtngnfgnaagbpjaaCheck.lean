/-
  The contract of epochs.Check: for every slice of starts.
-/
import Derived.Test.YtngnfgnaagbpjaaTab
namespace Go.Proofs.Ytngnfgnaagbpjaa
open Go.RowKit

/-- The loop's state: the start ahead lies in its block. -/
def ChkR (w : World) (n : Nat) (t : Tbl) (i : Value) (wr : World) : Prop :=
  ∃ k : Nat, k ≤ n ∧ i = .int .i64 k ∧ (∀ j, j < k → okAt t j) ∧ Lies wr w.heap.size 37 (scs (pE t k) (pL t k)) ∧ Below w.heap.size w wr

theorem Lies.cells2 {w : World} {g : Nat} {ty : TypeId} {e l : Nat} (h : Lies w g ty (scs e l)) : w.cell? ⟨g, 0, none⟩ = some (.int .u32 (e : Int)) ∧ w.cell? ⟨g, 1, none⟩ = some (.int .u64 (l : Int)) ∧ w.frozen? ⟨g, 0, none⟩ = false ∧ w.frozen? ⟨g, 1, none⟩ = false :=
  ⟨h.cell 0, h.cell 1, h.free 0, h.free 1⟩

set_option maxRecDepth 100000 in
set_option maxHeartbeats 2000000 in
theorem check_any (a : Option Addr) (n cap : Nat) (t : Tbl) (w : World) (hT : Tab w a n t) (hn : n ≤ maxLen) :
    Calls Try.prog 13 #[.slice a n cap] w fun e w' => e = .returned (.int .i64 (chk t : Nat)) ∧ Below w.heap.size w w' := by
  unfold maxLen at hn
  have HT := Lib.hid hT
  have HLEN := Lib.hid hT.1
  clear hT
  go_enter Try.func13, Try.ntmps13
  go_wp2_with fail
  go_loopw [8] (ChkR w n t) (fun i _ => n - (intOf i).toNat)
  case atStart => exact ⟨0, by omega, rfl, fun j h => by omega, Lies.made w 37 _, below1 w _⟩
  case round =>
    obtain ⟨k, hk, rfl, hall, hL, hbel⟩ := hrel
    have HALL := Lib.hid hall
    have HL := Lib.hid hL
    have HBE := Lib.hid hbel
    clear hall hL hbel
    by_cases hlt : k < n
    · obtain ⟨b, off, rfl, hat⟩ := (HT.out.below HBE.out).2.2 (by omega)
      obtain ⟨d0, d1⟩ := hat k hlt
      have hlb := block_lt_of_cell d0
      obtain ⟨p0, p1, p2, p3⟩ := HL.out.cells2
      have hwl := HL.out.lt
      have hkn : (k : Int) < (n : Int) := by omega
      clear hat
      have HST := Lib.hid (fun h => chk_stop (t := t) (k := k) (by rw [HLEN.out]; exact hlt) h)
      by_cases h1 : ep t k ≤ pE t k
      · have HNO := Lib.hid (HST.out (fun h => absurd h.1 (by omega)))
        generalize ep t k = e at *
        generalize ls t k = l at *
        generalize pE t k = pe at *
        generalize pL t k = pl at *
        have g1 : decide (e ≤ pe) = true := by rw [decide_eq_true_iff]; exact h1
        have g2 : decide ((e : Int) ≤ (pe : Int)) = true := by rw [decide_eq_true_iff]; omega
        go_wp2
        go_ret
        rw [HNO.out]
        exact ⟨rfl, HBE.out.alloc HBE.out.size _⟩
      · by_cases h2 : ls t k ≤ pL t k
        · have HNO := Lib.hid (HST.out (fun h => absurd h.2 (by omega)))
          generalize ep t k = e at *
          generalize ls t k = l at *
          generalize pE t k = pe at *
          generalize pL t k = pl at *
          have g1 : decide (e ≤ pe) = false := by rw [decide_eq_false_iff_not]; exact h1
          have g2 : decide ((e : Int) ≤ (pe : Int)) = false := by rw [decide_eq_false_iff_not]; omega
          have g3 : decide (l ≤ pl) = true := by rw [decide_eq_true_iff]; exact h2
          have g4 : decide ((l : Int) ≤ (pl : Int)) = true := by rw [decide_eq_true_iff]; omega
          go_wp2
          go_ret
          rw [HNO.out]
          exact ⟨rfl, HBE.out.alloc HBE.out.size _⟩
        · have HOK : Hid (okAt t k) := Lib.hid ⟨by omega, by omega⟩
          have HE := Lib.hid (pE_succ t k)
          have HLS := Lib.hid (pL_succ t k)
          generalize ep t k = e at *
          generalize ls t k = l at *
          generalize pE t k = pe at *
          generalize pL t k = pl at *
          have g1 : decide (e ≤ pe) = false := by rw [decide_eq_false_iff_not]; exact h1
          have g2 : decide ((e : Int) ≤ (pe : Int)) = false := by rw [decide_eq_false_iff_not]; omega
          have g3 : decide (l ≤ pl) = false := by rw [decide_eq_false_iff_not]; exact h2
          have g4 : decide ((l : Int) ≤ (pl : Int)) = false := by rw [decide_eq_false_iff_not]; omega
          go_wp2
          go_roundw
          case rel =>
            refine ⟨k + 1, by omega, by go_num, fun j hj => ?_, ?_, ?_⟩
            · by_cases hjk : j = k
              · subst hjk; exact HOK.out
              · exact HALL.out j (by omega)
            · rw [HE.out, HLS.out]
              exact ((HL.out.put 0 _).put 1 _).alloc _
            · have hb3 := (HBE.out.setCell (p := ⟨w.heap.size, 0, none⟩) (Nat.le_refl _) (.int .u32 (e : Int))).setCell (p := ⟨w.heap.size, 1, none⟩) (Nat.le_refl _) (.int .u64 (l : Int))
              exact hb3.alloc hb3.size _
          case measure => simp [intOf]; omega
    · have hkn : k = n := by omega
      subst hkn
      go_wp2
      go_ret
      rw [chk_all HLEN.out.symm HALL.out]
      exact ⟨rfl, HBE.out⟩

end Go.Proofs.Ytngnfgnaagbpjaa
