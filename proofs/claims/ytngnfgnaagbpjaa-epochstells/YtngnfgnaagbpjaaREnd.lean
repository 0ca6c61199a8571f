/-
  The contract of the document's End: for every slice of starts.
-/
import Derived.Test.YtngnfgnaagbpjaaRAt
namespace Go.Proofs.Ytngnfgnaagbpjaa
open Go.RowKit

def RenR (w : World) (n l e : Nat) (t : Tbl) (x i : Value) (wr : World) : Prop :=
  ∃ k : Nat, k ≤ n ∧ i = .int .i64 k ∧ x = .int .u64 (endV t l (cnt (fEL t l e) k) : Nat) ∧ Below w.heap.size w wr
theorem endV_more {t : Tbl} {l m : Nat} (h : m + 1 < t.length) (h2 : ls t (m + 1) ≤ l) : endV t l (m + 1) = ls t (m + 1) - 1 := by
  unfold endV; rw [if_neg (by omega), if_pos ⟨h, h2⟩]
theorem endV_last {t : Tbl} {l m : Nat} (h : ¬ (m + 1 < t.length ∧ ls t (m + 1) ≤ l)) : endV t l (m + 1) = l := by
  unfold endV; rw [if_neg (by omega), if_neg h]

set_option maxRecDepth 100000 in
set_option maxHeartbeats 2000000 in
theorem refEnd_any (a : Option Addr) (n cap l e : Nat) (t : Tbl) (w : World) (hT : Tab w a n t) (hn : n ≤ 1000000) :
    Calls Try.prog 18 #[.slice a n cap, .int .u64 (l : Int), .int .u32 (e : Int)] w fun x w' => x = .returned (.int .u64 (endS t l e : Nat)) ∧ Below w.heap.size w w' := by
  have CC := Lib.hid (refCheck_any a n cap t w hT (small_len _ hn))
  have HT := Lib.hid hT
  have HLEN := Lib.hid hT.1
  clear hT
  rcases chk_cases t with ⟨hM, hc⟩ | ⟨hM, hc⟩
  · rw [hc] at CC
    have HA : Hid (endS t l e = if isT t then endV t l (cnt (fEL t l e) t.length) else 0) := Lib.hid rfl
    rw [if_pos hM, HLEN.out] at HA
    have HM := Lib.hid hM
    clear hM hc
    go_enter Try.func18, Try.ntmps18
    go_wp2_with fail
    with_reducible refine CC.out.mono ?_
    rintro y w2 ⟨rfl, hb⟩
    rw [show ((0 : Nat) : Int) = 0 from rfl]
    have HB := Lib.hid hb
    clear hb CC
    go_wp2_with fail
    go_loopw [7, 9] (RenR w n l e t) (fun _ i _ => n - (intOf i).toNat)
    case atStart => exact ⟨0, by omega, rfl, rfl, HB.out⟩
    case round =>
      obtain ⟨k, hk, rfl, rfl, hbel⟩ := hrel
      have HBE := Lib.hid hbel
      clear hbel
      by_cases hlt : k < n
      · obtain ⟨b, off, rfl, hat⟩ := (HT.out.below HBE.out).2.2 (by omega)
        obtain ⟨d0, d1⟩ := hat k hlt
        have hkn : (k : Int) < (n : Int) := by omega
        by_cases h1 : ep t k ≤ e
        · by_cases h2 : ls t k ≤ l
          · have HY := Lib.hid (cnt_yes (f := fEL t l e) (n := k) (by simpa [fEL] using ⟨h1, h2⟩))
            by_cases h3 : k + 1 < n
            · obtain ⟨f0, f1⟩ := hat (k + 1) h3
              have hpos := (HM.out.pos (i := k + 1) (by rw [HLEN.out]; exact h3)).2
              have hfit := (HT.out.2.1 (k + 1)).2
              have hk1 : ((k : Int) + 1) < (n : Int) := by omega
              have hw1 : IntKind.i64.wrap ((k : Int) + 1) = ((k + 1 : Nat) : Int) := by rw [IntWalk.i64_in _ (by omega)]; omega
              have g7 : decide (((k + 1 : Nat) : Int) < (n : Int)) = true := by rw [decide_eq_true_iff]; omega
              have g8 : decide ((k : Int) + 1 < (n : Int)) = true := by rw [decide_eq_true_iff]; omega
              have g9 : decide (k + 1 < n) = true := by rw [decide_eq_true_iff]; omega
              by_cases h4 : ls t (k + 1) ≤ l
              · have HV := Lib.hid (endV_more (t := t) (l := l) (m := k) (by rw [HLEN.out]; exact h3) h4)
                generalize ls t (k + 1) = y at *
                generalize ls t k = x at *
                generalize ep t k = z at *
                generalize endV t l (cnt (fEL t l e) k) = pe at *
                obtain ⟨y', rfl⟩ : ∃ y', y = y' + 1 := ⟨y - 1, by omega⟩
                have hw2 : IntKind.u64.wrap (((y' + 1 : Nat) : Int) - 1) = (y' : Int) := by rw [IntKind.wrap_u64]; omega
                have g1 : decide ((z : Int) ≤ (e : Int)) = true := by rw [decide_eq_true_iff]; omega
                have g2 : decide (z ≤ e) = true := by rw [decide_eq_true_iff]; omega
                have g3 : decide ((x : Int) ≤ (l : Int)) = true := by rw [decide_eq_true_iff]; omega
                have g4 : decide (x ≤ l) = true := by rw [decide_eq_true_iff]; omega
                have g5 : decide (((y' + 1 : Nat) : Int) ≤ (l : Int)) = true := by rw [decide_eq_true_iff]; omega
                have g6 : decide (y' + 1 ≤ l) = true := by rw [decide_eq_true_iff]; omega
                clear hat
                go_wp2
                go_roundw
                case rel => exact ⟨k + 1, by omega, by go_num, val_int (by rw [HY.out, HV.out]; omega), HBE.out⟩
                case measure => simp [intOf]; omega
              · have HV := Lib.hid (endV_last (t := t) (l := l) (m := k) (fun h => h4 h.2))
                generalize ls t (k + 1) = y at *
                generalize ls t k = x at *
                generalize ep t k = z at *
                generalize endV t l (cnt (fEL t l e) k) = pe at *
                have g1 : decide ((z : Int) ≤ (e : Int)) = true := by rw [decide_eq_true_iff]; omega
                have g2 : decide (z ≤ e) = true := by rw [decide_eq_true_iff]; omega
                have g3 : decide ((x : Int) ≤ (l : Int)) = true := by rw [decide_eq_true_iff]; omega
                have g4 : decide (x ≤ l) = true := by rw [decide_eq_true_iff]; omega
                have g5 : decide ((y : Int) ≤ (l : Int)) = false := by rw [decide_eq_false_iff_not]; omega
                have g6 : decide (y ≤ l) = false := by rw [decide_eq_false_iff_not]; omega
                clear hat
                go_wp2
                go_roundw
                case rel => exact ⟨k + 1, by omega, by go_num, val_int (by rw [HY.out, HV.out]), HBE.out⟩
                case measure => simp [intOf]; omega
            · have HV := Lib.hid (endV_last (t := t) (l := l) (m := k) (fun h => by have := HLEN.out; omega))
              generalize ls t k = x at *
              generalize ep t k = z at *
              generalize endV t l (cnt (fEL t l e) k) = pe at *
              have g1 : decide ((z : Int) ≤ (e : Int)) = true := by rw [decide_eq_true_iff]; omega
              have g2 : decide (z ≤ e) = true := by rw [decide_eq_true_iff]; omega
              have g3 : decide ((x : Int) ≤ (l : Int)) = true := by rw [decide_eq_true_iff]; omega
              have g4 : decide (x ≤ l) = true := by rw [decide_eq_true_iff]; omega
              have hw1 : IntKind.i64.wrap ((k : Int) + 1) = (k : Int) + 1 := by rw [IntWalk.i64_in _ (by omega)]
              have g8 : decide ((k : Int) + 1 < (n : Int)) = false := by rw [decide_eq_false_iff_not]; omega
              have g9 : decide (k + 1 < n) = false := by rw [decide_eq_false_iff_not]; omega
              clear hat
              go_wp2
              go_roundw
              case rel => exact ⟨k + 1, by omega, by go_num, val_int (by rw [HY.out, HV.out]), HBE.out⟩
              case measure => simp [intOf]; omega
          · have HY := Lib.hid (cnt_no (f := fEL t l e) (n := k) (by simp [fEL]; omega))
            generalize ls t k = x at *
            generalize ep t k = z at *
            generalize hpe : endV t l (cnt (fEL t l e) k) = pe at *
            have HPE := Lib.hid hpe
            have g1 : decide ((z : Int) ≤ (e : Int)) = true := by rw [decide_eq_true_iff]; omega
            have g2 : decide (z ≤ e) = true := by rw [decide_eq_true_iff]; omega
            have g3 : decide ((x : Int) ≤ (l : Int)) = false := by rw [decide_eq_false_iff_not]; omega
            have g4 : decide (x ≤ l) = false := by rw [decide_eq_false_iff_not]; omega
            clear hat hpe
            go_wp2
            go_roundw
            case rel => exact ⟨k + 1, by omega, by go_num, val_int (by rw [HY.out, HPE.out]), HBE.out⟩
            case measure => simp [intOf]; omega
        · have HY := Lib.hid (cnt_no (f := fEL t l e) (n := k) (by simp [fEL]; omega))
          generalize ls t k = x at *
          generalize ep t k = z at *
          generalize hpe : endV t l (cnt (fEL t l e) k) = pe at *
          have HPE := Lib.hid hpe
          have g1 : decide ((z : Int) ≤ (e : Int)) = false := by rw [decide_eq_false_iff_not]; omega
          have g2 : decide (z ≤ e) = false := by rw [decide_eq_false_iff_not]; omega
          clear hat hpe
          go_wp2
          go_roundw
          case rel => exact ⟨k + 1, by omega, by go_num, val_int (by rw [HY.out, HPE.out]), HBE.out⟩
          case measure => simp [intOf]; omega
      · have hkn : k = n := by omega
        subst hkn
        generalize hpe : endV t l (cnt (fEL t l e) k) = pe at *
        have HPE := Lib.hid hpe
        clear hpe
        have hd1 : decide (k < k) = false := by simp
        go_wp2
        go_ret
        exact ⟨ret_int (by rw [HA.out]), HBE.out⟩
  · rw [hc] at CC
    have HA := Lib.hid (endS_no hM l e)
    clear hM hc
    go_enter Try.func18, Try.ntmps18
    go_wp2_with fail
    with_reducible refine CC.out.mono ?_
    rintro y w2 ⟨rfl, hb⟩
    rw [show ((60 : Nat) : Int) = 60 from rfl]
    have HB := Lib.hid hb
    clear hb CC
    by_cases h0 : 0 < n
    · go_wp2_with fail
      go_loopw [7, 9] (fun x i wr => x = .int .u64 0 ∧ i = .int .i64 0 ∧ Below w.heap.size w wr) (fun _ i _ => n - (intOf i).toNat)
      case atStart => exact ⟨rfl, rfl, HB.out⟩
      case round =>
        obtain ⟨rfl, rfl, hbel⟩ := hrel
        have HBE := Lib.hid hbel
        clear hbel
        have hd1 : decide ((0 : Int) < (n : Int)) = true := by rw [decide_eq_true_iff]; omega
        have hd2 : decide (0 < n) = true := by rw [decide_eq_true_iff]; omega
        go_wp2
        go_ret
        exact ⟨ret_int (by rw [HA.out]; rfl), HBE.out⟩
    · go_wp2_with fail
      go_loopw [7, 9] (fun x i wr => x = .int .u64 0 ∧ i = .int .i64 0 ∧ Below w.heap.size w wr) (fun _ i _ => n - (intOf i).toNat)
      case atStart => exact ⟨rfl, rfl, HB.out⟩
      case round =>
        obtain ⟨rfl, rfl, hbel⟩ := hrel
        have HBE := Lib.hid hbel
        clear hbel
        have hd1 : decide ((0 : Int) < (n : Int)) = false := by rw [decide_eq_false_iff_not]; omega
        have hd2 : decide (0 < n) = false := by rw [decide_eq_false_iff_not]; omega
        go_wp2
        go_ret
        exact ⟨ret_int (by rw [HA.out]; rfl), HBE.out⟩

end Go.Proofs.Ytngnfgnaagbpjaa
