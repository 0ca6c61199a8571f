/-
  The walk of FrameApart, out of the contracts.
-/
import Derived.Test.YtaehagejmeimiaaIn
namespace Go.Proofs.Ytaehagejmeimiaa
open Go.RowKit

theorem begins_iff (a b : List Nat) (ha : a.length ≤ 2000) (hb : b.length ≤ 2000) (h : (Frm.frm a).length ≤ (Frm.frm b).length) : sameB (Frm.frm a) ((Frm.frm b).take (Frm.frm a).length) = sameB a b := by
  by_cases e : a = b
  · subst e
    rw [List.take_length, sameB_self, sameB_self]
  · rw [sameB_ne e, sameB_ne]
    intro hh
    have h2 : Frm.frm a ++ (Frm.frm b).drop (Frm.frm a).length = Frm.frm b ++ [] := by
      conv => lhs; lhs; rw [hh]
      rw [List.take_append_drop, List.append_nil]
    exact e (Frm.frm_inj ha hb h2).1
theorem begins_no (a b : List Nat) (h : ¬ (Frm.frm a).length ≤ (Frm.frm b).length) : sameB a b = false := by
  apply sameB_ne
  rintro rfl
  exact h (Nat.le_refl _)

set_option maxHeartbeats 1000000 in
theorem apart_short (a b : Option Addr) (n m c d : Nat) (la lb : List Nat) (w : World) (hA : InBytes w a n c la) (hB : InBytes w b m d lb) (hn : n ≤ 2000) (hm : m ≤ 2000) :
    Calls Try.prog 10 #[.slice a n c, .slice b m d] w fun e w' => e = .returned (.bool true) ∧ Below w.heap.size w w' := by
  obtain ⟨hBa, hna, hca, hAa⟩ := hA
  obtain ⟨hBb, hnb, hcb, hAb⟩ := hB
  have HA := Lib.hid hBa
  have HB := Lib.hid hBb
  have HNA := Lib.hid hAa
  have HNB := Lib.hid hAb
  clear hBa hBb hAa hAb
  go_enter Try.func10, Try.ntmps10
  go_wp2_with fail
  with_reducible refine (put_any _ _ _ _ _ HA.out HNA.out hn).mono ?_
  rintro e w1 ⟨v1, rfl, hO1, hb1⟩
  obtain ⟨A1, c1, rfl, hX, hc1, hm1, hz1⟩ := hO1.slice
  clear hO1
  rw [Frm.frm_len, HA.out.1] at hX hc1 ⊢
  have HX := Lib.hid hX
  have HB1 := Lib.hid (HB.out.below hb1)
  clear hX
  go_wp2_with fail
  with_reducible refine (put_any _ _ _ _ _ HB1.out HNB.out hm).mono ?_
  rintro e w2 ⟨v2, rfl, hO2, hb2⟩
  obtain ⟨A2, c2, rfl, hY, hc2, hm2, hz2⟩ := hO2.slice
  clear hO2
  rw [Frm.frm_len, HB.out.1] at hY hc2 ⊢
  have HY := Lib.hid hY
  have HX2 := Lib.hid (HX.out.below hb2)
  have hb02 := hb1.trans (hb2.mono hb1.size)
  have HA2 := Lib.hid (HA.out.below hb02)
  have HB2 := Lib.hid (HB1.out.below hb2)
  have hlx := Frm.frm_len la
  have hly := Frm.frm_len lb
  rw [HA.out.1] at hlx
  rw [HB.out.1] at hly
  have hbeg := begins_iff la lb (by rw [HA.out.1]; exact hn) (by rw [HB.out.1]; exact hm)
  have hnot := begins_no la lb
  clear hY
  go_wp2_with fail
  with_reducible refine (same_any _ _ _ _ _ _ _ _ _ HA2.out HB2.out).mono ?_
  rintro e w3 ⟨rfl, rfl⟩
  rw [hlx, hly] at hbeg hnot
  generalize Frm.frm la = fx at *
  generalize Frm.frm lb = fy at *
  have HBEG := Lib.hid hbeg
  have HNOT := Lib.hid hnot
  clear hbeg hnot hlx hly
  unfold maxLen at hm1 hm2
  by_cases hle : n + 8 ≤ m + 8
  · have hbe := HBEG.out hle
    have HBE := Lib.hid hbe
    have hd : decide ((n : Int) + 8 ≤ (m : Int) + 8) = true := by simp; omega
    clear hbe HBEG HNOT
    go_wp2_with fail
    with_reducible refine (same_any _ _ _ _ _ _ _ _ _ HX2.out (HY.out.front (n + 8) hle)).mono ?_
    rintro e w4 ⟨rfl, rfl⟩
    rw [HBE.out]
    generalize sameB la lb = s at *
    go_wp2_with fail
    with_reducible refine (known_any _).mono ?_
    rintro e w5 ⟨rfl, hb5⟩
    go_wp2
    go_ret
    exact ⟨rfl, hb02.trans (hb5.mono hb02.size)⟩
  · have hbe := HNOT.out hle
    rw [hbe]
    have hd : decide ((n : Int) + 8 ≤ (m : Int) + 8) = false := by simp; omega
    clear hbe HBEG HNOT
    go_wp2_with fail
    with_reducible refine (known_any _).mono ?_
    rintro e w5 ⟨rfl, hb5⟩
    go_wp2
    go_ret
    exact ⟨rfl, hb02.trans (hb5.mono hb02.size)⟩

set_option maxHeartbeats 400000 in
theorem apart_long (a b : Option Addr) (n m c d : Nat) (w : World) (h : 2000 < n ∨ 2000 < m) (hn : n ≤ maxLen) (hm : m ≤ maxLen) :
    Calls Try.prog 10 #[.slice a n c, .slice b m d] w fun e w' => e = .returned (.bool true) ∧ Below w.heap.size w w' := by
  unfold maxLen at hn hm
  by_cases h1 : 2000 < n
  · have hd : decide ((2000 : Int) < (n : Int)) = true := by simp; omega
    go_enter Try.func10, Try.ntmps10
    go_wp2_with fail
    with_reducible refine (known_any _).mono ?_
    rintro e w5 ⟨rfl, hb5⟩
    go_wp2
    go_ret
    exact ⟨rfl, hb5⟩
  · have hd : decide ((2000 : Int) < (n : Int)) = false := by simp; omega
    have hd2 : decide ((2000 : Int) < (m : Int)) = true := by simp; omega
    go_enter Try.func10, Try.ntmps10
    go_wp2_with fail
    with_reducible refine (known_any _).mono ?_
    rintro e w5 ⟨rfl, hb5⟩
    go_wp2
    go_ret
    exact ⟨rfl, hb5⟩

theorem frameApart_walk (a : Option Addr) (n c : Nat) (la : List Nat) (b : Option Addr) (m d : Nat) (lb : List Nat) (w : World) (hA : InBytes w a n c la) (hB : InBytes w b m d lb) :
    Calls Try.prog 10 #[.slice a n c, .slice b m d] w fun e w' => e = .returned (.bool true) ∧ Below w.heap.size w w' := by
  by_cases h : n ≤ 2000 ∧ m ≤ 2000
  · exact apart_short a b n m c d la lb w hA hB h.1 h.2
  · exact apart_long a b n m c d w (by omega) (by have := hA.2; omega) (by have := hB.2; omega)

end Go.Proofs.Ytaehagejmeimiaa
