/-
  The contracts of the document's At and End: for every slice of starts.
-/
import Derived.Test.YtngnfgnaagbpjaaRChk
namespace Go.Proofs.Ytngnfgnaagbpjaa
open Go.RowKit

def RatR (w : World) (n l : Nat) (t : Tbl) (x i : Value) (wr : World) : Prop :=
  ∃ k : Nat, k ≤ n ∧ i = .int .i64 k ∧ x = .int .u32 (pE t (cnt (fL t l) k) : Nat) ∧ Below w.heap.size w wr

set_option maxRecDepth 100000 in
set_option maxHeartbeats 2000000 in
theorem refAt_any (a : Option Addr) (n cap l : Nat) (t : Tbl) (w : World) (hT : Tab w a n t) (hn : n ≤ maxLen) :
    Calls Try.prog 17 #[.slice a n cap, .int .u64 (l : Int)] w fun x w' => x = .returned (.int .u32 (atS t l : Nat)) ∧ Below w.heap.size w w' := by
  have CC := Lib.hid (refCheck_any a n cap t w hT hn)
  unfold maxLen at hn
  have HT := Lib.hid hT
  have HLEN := Lib.hid hT.1
  clear hT
  rcases chk_cases t with ⟨hM, hc⟩ | ⟨hM, hc⟩
  · rw [hc] at CC
    have HA := Lib.hid (atS_yes hM l)
    have HCL : Hid (cL t l = cnt (fL t l) t.length) := Lib.hid rfl
    rw [HLEN.out] at HCL
    clear hM hc
    go_enter Try.func17, Try.ntmps17
    go_wp2_with fail
    with_reducible refine CC.out.mono ?_
    rintro y w2 ⟨rfl, hb⟩
    rw [show ((0 : Nat) : Int) = 0 from rfl]
    have HB := Lib.hid hb
    clear hb CC
    go_wp2_with fail
    go_loopw [5, 7] (RatR w n l t) (fun _ i _ => n - (intOf i).toNat)
    case atStart => exact ⟨0, by omega, rfl, rfl, HB.out⟩
    case round =>
      obtain ⟨k, hk, rfl, rfl, hbel⟩ := hrel
      have HBE := Lib.hid hbel
      clear hbel
      by_cases hlt : k < n
      · obtain ⟨b, off, rfl, hat⟩ := (HT.out.below HBE.out).2.2 (by omega)
        obtain ⟨d0, d1⟩ := hat k hlt
        have hkn : (k : Int) < (n : Int) := by omega
        clear hat
        by_cases h1 : ls t k ≤ l
        · have HY := Lib.hid (cnt_yes (f := fL t l) (n := k) (by simpa [fL] using h1))
          have HP := Lib.hid (pE_succ t k)
          generalize ls t k = x at *
          generalize ep t k = e at *
          generalize pE t (cnt (fL t l) k) = pe at *
          have g1 : decide ((x : Int) ≤ (l : Int)) = true := by rw [decide_eq_true_iff]; omega
          have g2 : decide (x ≤ l) = true := by rw [decide_eq_true_iff]; omega
          go_wp2
          go_roundw
          case rel => exact ⟨k + 1, by omega, by go_num, by rw [HY.out, HP.out], HBE.out⟩
          case measure => simp [intOf]; omega
        · have HY := Lib.hid (cnt_no (f := fL t l) (n := k) (by simpa [fL] using h1))
          generalize ls t k = x at *
          generalize ep t k = e at *
          have g1 : decide ((x : Int) ≤ (l : Int)) = false := by rw [decide_eq_false_iff_not]; omega
          have g2 : decide (x ≤ l) = false := by rw [decide_eq_false_iff_not]; omega
          generalize hpe : pE t (cnt (fL t l) k) = pe at *
          have HPE := Lib.hid hpe
          clear hpe
          go_wp2
          go_roundw
          case rel => exact ⟨k + 1, by omega, by go_num, by rw [HY.out, HPE.out], HBE.out⟩
          case measure => simp [intOf]; omega
      · have hkn : k = n := by omega
        subst hkn
        generalize hpe : pE t (cnt (fL t l) k) = pe at *
        have HPE := Lib.hid hpe
        clear hpe
        have hd1 : decide (k < k) = false := by simp
        go_wp2
        go_ret
        exact ⟨ret_int (by rw [HA.out, HCL.out, HPE.out]), HBE.out⟩
  · rw [hc] at CC
    have HA := Lib.hid (atS_no hM l)
    clear hM hc
    go_enter Try.func17, Try.ntmps17
    go_wp2_with fail
    with_reducible refine CC.out.mono ?_
    rintro y w2 ⟨rfl, hb⟩
    rw [show ((60 : Nat) : Int) = 60 from rfl]
    have HB := Lib.hid hb
    clear hb CC
    by_cases h0 : 0 < n
    · go_wp2_with fail
      go_loopw [5, 7] (fun x i wr => x = .int .u32 0 ∧ i = .int .i64 0 ∧ Below w.heap.size w wr) (fun _ i _ => n - (intOf i).toNat)
      case atStart => exact ⟨rfl, rfl, HB.out⟩
      case round =>
        obtain ⟨rfl, rfl, hbel⟩ := hrel
        have HBE := Lib.hid hbel
        clear hbel
        have hd1 : decide ((0 : Int) < (n : Int)) = true := by rw [decide_eq_true_iff]; omega
        have hd2 : decide (0 < n) = true := by rw [decide_eq_true_iff]; omega
        go_wp2
        go_ret
        exact ⟨ret_int (by rw [HA.out]; rfl), HBE.out⟩
    · go_wp2_with fail
      go_loopw [5, 7] (fun x i wr => x = .int .u32 0 ∧ i = .int .i64 0 ∧ Below w.heap.size w wr) (fun _ i _ => n - (intOf i).toNat)
      case atStart => exact ⟨rfl, rfl, HB.out⟩
      case round =>
        obtain ⟨rfl, rfl, hbel⟩ := hrel
        have HBE := Lib.hid hbel
        clear hbel
        have hd1 : decide ((0 : Int) < (n : Int)) = false := by rw [decide_eq_false_iff_not]; omega
        have hd2 : decide (0 < n) = false := by rw [decide_eq_false_iff_not]; omega
        go_wp2
        go_ret
        exact ⟨ret_int (by rw [HA.out]; rfl), HBE.out⟩

end Go.Proofs.Ytngnfgnaagbpjaa
