/-
  The contract of serve.
-/
import Derived.Test.YtfcfejmammohpaaCallV
import Derived.Test.YtfcfejmammohpaaCall1
namespace Go.Proofs.Ytfcfejmammohpaa
open Go.RowKit
set_option maxRecDepth 100000
set_option linter.unusedVariables false

abbrev CallsOk : Prop := ∀ (w0 : World) (gs : Nat) (s : St) (x : Cx) (w : World), SM w0 gs s w → s.inv → CT w0 x → x.l.length ≤ 255 → s.n < 200 → (s.nt < 200 ∧ s.nd < 200 ∧ s.no < 200) → Calls Try.prog 51 #[.pointer (some ⟨gs, 0, none⟩), .agg (cl6 x)] w (CallPost w0 gs s)
abbrev St.le (s : St) (j : Nat) : Prop := s.n ≤ j ∧ s.nt ≤ j ∧ s.nd ≤ j ∧ s.no ≤ j
def ServePost (w : World) (x : Ending) (w' : World) : Prop := ∃ (s : St) (ok : Bool), x = .returned (.tuple #[.pointer (some ⟨w.heap.size, 0, none⟩), .bool ok]) ∧ SM w w.heap.size s w' ∧ s.inv ∧ s.le 120
def SvR (w : World) (gs n : Nat) (i : Value) (wr : World) : Prop := ∃ (j : Nat) (s : St), j ≤ n ∧ j ≤ 120 ∧ i = .int .i64 (j : Int) ∧ SM w gs s wr ∧ s.inv ∧ s.le j
abbrev St0 : St := ⟨0, none, 0, 0, fun _ => ⟨kz, .slice none 0 0, .slice none 0 0⟩, none, 0, 0, fun _ => ⟨kz, .slice none 0 0, .slice none 0 0⟩, none, 0, 0, fun _ => ⟨kz, .slice none 0 0, .slice none 0 0⟩, none, 0, 0, fun _ => ⟨kz, .slice none 0 0, .slice none 0 0⟩⟩
theorem sm_zero (w : World) : SM w w.heap.size St0 (w.alloc (.cells #[.int .u32 0, .slice none 0 0, .slice none 0 0, .slice none 0 0, .slice none 0 0, .bool false] 62)) := by
  have ap : Apart (.slice none 0 0) (.slice none 0 0) := fun g h => by cases h
  exact ⟨rfl, Lies.made w 62 _, NF.nil _ _ _, OwnK.nil _ _ _, (fun i hi => absurd hi (Nat.not_lt_zero i)), KL.nil _ _ _, KL.nil _ _ _, ap, ap, ap, ap, ap, ap, below1 w _⟩
set_option maxHeartbeats 8000000 in
theorem serve_any (CC : ∀ (w0 : World) (gs : Nat) (s : St) (x : Cx) (w : World), SM w0 gs s w → s.inv → CT w0 x → x.l.length ≤ 255 → s.n < 200 → (s.nt < 200 ∧ s.nd < 200 ∧ s.no < 200) → Calls Try.prog 51 #[.pointer (some ⟨gs, 0, none⟩), .agg (cl6 x)] w (CallPost w0 gs s))
    (A : Option Addr) (n c : Nat) (w : World) (hV : CV w A n c) : Calls Try.prog 29 #[.slice A n c] w (ServePost w) := by
  obtain ⟨hnc, hcm, _, X, hX⟩ := hV
  have HX := Lib.hid hX
  have HCC := Lib.hid CC
  have HZ := Lib.hid (sm_zero w)
  have hn63 : n ≤ maxLen := Nat.le_trans hnc hcm
  unfold maxLen at hn63
  unfold CallPost at HCC
  clear hX CC hnc hcm
  go_enter Try.func29, Try.ntmps29
  go_wp2_with fail
  obtain ⟨gs, hgs⟩ : ∃ g, g = w.heap.size := ⟨_, rfl⟩
  have HG := Lib.hid hgs
  rw [← hgs]
  rw [← hgs] at HZ
  clear hgs
  go_loopw [5] (SvR w gs n) (fun i _ => n - (intOf i).toNat)
  case atStart => exact ⟨0, St0, by omega, by omega, rfl, HZ.out, Inv.zero, by simp [St.le]⟩
  case round =>
    clear HZ
    obtain ⟨j, s, hj, hj2, rfl, hM, hI, hle⟩ := hrel
    have SMr := Lib.hid hM
    have HI := Lib.hid hI
    have HLE := Lib.hid hle
    clear hM hI hle
    by_cases hlt : j < n
    · by_cases h120 : j < 120
      · obtain ⟨b, off, rfl, -⟩ := HX.out.1 (by omega)
        have hi : (j : Int) < (n : Int) := by omega
        have d1 : decide ((j : Int) < 120) = true := by rw [decide_eq_true_iff]; omega
        have d2 : decide (j < 120) = true := decide_eq_true h120
        have HXr := Lib.hid (HX.out.below (show Below w.heap.size w wr by rw [← HG.out]; exact SMr.out.bel))
        obtain ⟨q0, q1, q2, q3, q4, q5⟩ := HXr.out.at j hlt
        have HCT := Lib.hid (HX.out.2 j hlt)
        obtain ⟨y, hy⟩ : ∃ y, X j = y := ⟨_, rfl⟩
        rw [hy] at q0 q1 q2 q3 q4 q5 HCT
        clear hy
        obtain ⟨ye, yo, ys, yu, yA, yl, yc, yg⟩ := y
        dsimp only at q0 q1 q2 q3 q4 q5
        by_cases hl : 255 < yl.length
        · have d3 : decide (255 < yl.length) = true := decide_eq_true hl
          have d4 : decide ((255 : Int) < ((yl.length : Nat) : Int)) = true := by rw [decide_eq_true_iff]; omega
          go_wp2
          go_ret2
          exact ⟨s, false, by rw [HG.out]; rfl, by rw [← HG.out]; exact SMr.out, HI.out, by have := HLE.out; simp only [St.le] at *; omega⟩
        · have d3 : decide (255 < yl.length) = false := decide_eq_false hl
          have d4 : decide ((255 : Int) < ((yl.length : Nat) : Int)) = false := by rw [decide_eq_false_iff_not]; omega
          have CJ := Lib.hid (HCC.out w gs s ⟨ye, yo, ys, yu, yA, yl, yc, yg⟩ wr SMr.out HI.out HCT.out (by show yl.length ≤ 255; omega) (by have := HLE.out; simp only [St.le] at this; omega) (by have := HLE.out; simp only [St.le] at this; omega))
          go_wp2_with fail
          with_reducible refine CJ.out.mono ?_
          rintro x w3 ⟨rfl, s', hM', hI', hb'⟩
          have SM3 := Lib.hid hM'
          have HI3 := Lib.hid hI'
          have HB3 := Lib.hid hb'
          clear hM' hI' hb' q0 q1 q2 q3 q4 q5 CJ
          go_wp2
          go_roundw
          case rel => exact ⟨j + 1, s', by omega, by omega, by go_num, SM3.out, HI3.out, by have := HB3.out; have := HLE.out; simp only [St.le] at *; omega⟩
          case measure => simp [intOf]; omega
      · have hi : (j : Int) < (n : Int) := by omega
        have d0 : decide ((j : Int) < (n : Int)) = true := by rw [decide_eq_true_iff]; omega
        have d0b : decide (j < n) = true := decide_eq_true hlt
        have d1 : decide ((j : Int) < 120) = false := by rw [decide_eq_false_iff_not]; omega
        have d2 : decide (j < 120) = false := decide_eq_false h120
        go_wp2
        go_ret2
        exact ⟨s, true, by rw [HG.out]; rfl, by rw [← HG.out]; exact SMr.out, HI.out, by have := HLE.out; simp only [St.le] at *; omega⟩
    · have d1 : decide ((j : Int) < (n : Int)) = false := by rw [decide_eq_false_iff_not]; omega
      have d2 : decide (j < n) = false := decide_eq_false hlt
      go_wp2
      go_ret2
      exact ⟨s, true, by rw [HG.out]; rfl, by rw [← HG.out]; exact SMr.out, HI.out, by have := HLE.out; simp only [St.le] at *; omega⟩

end Go.Proofs.Ytfcfejmammohpaa
