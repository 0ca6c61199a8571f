/-
  The walk of EntryRows, out of the contracts.
-/
import Derived.Test.YtccpmalefdnhdaaRRow
import Derived.Test.YtccpmalefdnhdaaLongFn
import Derived.Test.YtccpmalefdnhdaaEpochsWalk
namespace Go.Proofs.Ytccpmalefdnhdaa
open Go.RowKit
set_option linter.unusedVariables false

def LgR (w : World) (n : Nat) (i : Value) (wr : World) : Prop := ∃ k : Nat, k ≤ n ∧ k ≤ 2000 ∧ i = .int .i64 k ∧ Below w.heap.size w wr

set_option maxRecDepth 100000 in
set_option maxHeartbeats 4000000 in
theorem entryRows_walk (a : Option Addr) (n cap : Nat) (es : List Entry) (w : World) (hI : InEnts w a n cap es) :
    Calls Try.prog 7 #[.slice a n cap] w fun e w' => e = .returned (.bool true) ∧ Below w.heap.size w w' := by
  obtain ⟨hE, hnc, hcm, _⟩ := hI
  have hlen := hE.1
  have HE := Lib.hid hE
  have HLEN := Lib.hid hlen
  have hnm : n ≤ 9223372036854775807 := by unfold maxLen at hcm; omega
  have HNM := Lib.hid (Nat.le_trans hnc hcm)
  clear hE hlen hcm
  go_enter Try.func7, Try.ntmps7
  go_wp2_with fail
  go_loopw [3] (LgR w n) (fun i _ => n - (intOf i).toNat)
  case atStart => exact ⟨0, by omega, by omega, rfl, Below.refl _ _⟩
  case round =>
    obtain ⟨k, hk, hk2, rfl, hbel⟩ := hrel
    have HBE := Lib.hid hbel
    clear hbel
    by_cases hlt : k < n ∧ k < 2000
    · obtain ⟨hlt1, hlt2⟩ := hlt
      obtain ⟨b, off, rfl, hat⟩ := HE.out.2 (by omega)
      have hkl : k < es.length := by rw [HLEN.out]; omega
      obtain ⟨A1, A2, c1, c2, hV, hrg⟩ := (hat k hkl).below HBE.out
      obtain ⟨e0, e1, e2, e3, e4, e5, e6, e7, e8, e9, e10⟩ := range_cells hrg
      have C2 := Lib.hid (long_any (es[k]'hkl) A1 A2 c1 c2 wr)
      have hi1 : (k : Int) < (n : Int) := by omega
      have hd1 : decide ((k : Int) < (n : Int)) = true := by rw [decide_eq_true_iff]; omega
      have hd2 : decide (k < n) = true := by rw [decide_eq_true_iff]; omega
      clear hat hV hrg
      generalize es[k]'hkl = e at *
      obtain ⟨n1, hn1⟩ : ∃ n, e.key.length = n := ⟨_, rfl⟩
      obtain ⟨n2, hn2⟩ : ∃ n, e.data.length = n := ⟨_, rfl⟩
      rw [hn1] at e9 C2
      rw [hn2] at e10 C2
      clear hn1 hn2
      generalize longE e = lg at *
      go_wp2_with fail
      with_reducible refine C2.out.mono ?_
      rintro x w2 ⟨rfl, hb2⟩
      have BB2 := Lib.hid (HBE.out.trans (hb2.mono HBE.out.size))
      clear e0 e1 e2 e3 e4 e5 e6 e7 e8 e9 e10 hb2
      cases lg
      · go_wp2
        go_roundw
        case rel => exact ⟨k + 1, by omega, by omega, by go_num, BB2.out⟩
        case measure => simp [intOf]; omega
      · go_wp2_with fail
        with_reducible refine (known_any _).mono ?_
        rintro x w3 ⟨rfl, hb3⟩
        go_wp2
        go_ret
        exact ⟨rfl, BB2.out.trans (hb3.mono BB2.out.size)⟩
    · have C1 := Lib.hid (row_any a n cap es wr (HE.out.below HBE.out) HNM.out)
      have C2 := Lib.hid (fun W (h : Ents W a n es) => refRow_any a n cap es W h HNM.out)
      by_cases hn : n ≤ 1000
      · have hkn : ¬ k < n := by omega
        have hd1 : decide ((k : Int) < (n : Int)) = false := by rw [decide_eq_false_iff_not]; omega
        have hd2 : decide (k < n) = false := by rw [decide_eq_false_iff_not]; omega
        go_wp2_with fail
        with_reducible refine C1.out.mono ?_
        rintro x w3 ⟨m, hm, rfl, hb3⟩
        have BB3 := Lib.hid (HBE.out.trans (hb3.mono HBE.out.size))
        have HM := Lib.hid hm
        clear hm hb3
        obtain ⟨er, her⟩ : ∃ q, Ent.rowE es m = q := ⟨_, rfl⟩
        rw [her]
        go_wp2_with fail
        with_reducible refine (C2.out _ (HE.out.below BB3.out)).mono ?_
        rintro x w4 ⟨m', hm', rfl, hb4⟩
        obtain rfl := hm'.uniq HM.out
        rw [her]
        have BB4 := Lib.hid (BB3.out.trans (hb4.mono BB3.out.size))
        clear hm' hb4 her
        go_wp2_with fail
        with_reducible refine (known_any _).mono ?_
        rintro x w5 ⟨rfl, hb5⟩
        go_wp2
        go_ret
        exact ⟨rfl, BB4.out.trans (hb5.mono BB4.out.size)⟩
      · by_cases hkn : k < n
        · have hd1 : decide ((k : Int) < (n : Int)) = true := by rw [decide_eq_true_iff]; omega
          have hd2 : decide (k < n) = true := by rw [decide_eq_true_iff]; omega
          have hk2000 : k = 2000 := by omega
          have hd3 : decide (k < 2000) = false := by rw [decide_eq_false_iff_not]; omega
          have hd4 : decide ((k : Int) < 2000) = false := by rw [decide_eq_false_iff_not]; omega
          clear hk2000
          go_wp2_with fail
          with_reducible refine (known_any _).mono ?_
          rintro x w5 ⟨rfl, hb5⟩
          go_wp2
          go_ret
          exact ⟨rfl, HBE.out.trans (hb5.mono HBE.out.size)⟩
        · have hd1 : decide ((k : Int) < (n : Int)) = false := by rw [decide_eq_false_iff_not]; omega
          have hd2 : decide (k < n) = false := by rw [decide_eq_false_iff_not]; omega
          go_wp2_with fail
          with_reducible refine (known_any _).mono ?_
          rintro x w5 ⟨rfl, hb5⟩
          go_wp2
          go_ret
          exact ⟨rfl, HBE.out.trans (hb5.mono HBE.out.size)⟩

end Go.Proofs.Ytccpmalefdnhdaa
