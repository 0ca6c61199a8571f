/-
  The walk of FramePuts, out of the contracts.
-/
import Derived.Test.YtaehagejmeimiaaAllsWalk
namespace Go.Proofs.Ytaehagejmeimiaa
open Go.RowKit

/-- What Put answers: the frame and the error. -/
def putB (l : List Nat) : List Nat := if l.length ≤ 2000 then Frm.frm l else []
def putE (l : List Nat) : Nat := if l.length ≤ 2000 then 0 else 3
def PutPost (w : World) (l : List Nat) (e : Ending) (w' : World) : Prop :=
  ∃ v, e = .returned (.tuple #[v, .int .i64 (putE l : Nat)]) ∧ Own w' w.heap.size v (putB l) ∧ Below w.heap.size w w'
theorem put_gen (a : Option Addr) (n cap : Nat) (l : List Nat) (w : World) (hB : Bys w a n l) (hA : a = none → cap = 0) (hm : n ≤ maxLen) : Calls Try.prog 13 #[.slice a n cap] w (PutPost w l) := by
  by_cases hn : n ≤ 2000
  · refine (put_any a n cap l w hB hA hn).mono ?_
    rintro e w' ⟨v, rfl, hO, hb⟩
    refine ⟨v, ?_, ?_, hb⟩
    · unfold putE; rw [hB.1, if_pos hn]; rfl
    · unfold putB; rw [hB.1, if_pos hn]; exact hO
  · refine (put_long a n cap w (by omega) hm).mono ?_
    rintro e w' ⟨rfl, rfl⟩
    refine ⟨.slice none 0 0, ?_, ?_, Below.refl _ _⟩
    · unfold putE; rw [hB.1, if_neg hn]; rfl
    · unfold putB; rw [hB.1, if_neg hn]; exact Own.nil _ _
theorem refPut_gen (a : Option Addr) (n cap : Nat) (l : List Nat) (w : World) (hB : Bys w a n l) (hA : a = none → cap = 0) (hm : n ≤ maxLen) : Calls Try.prog 16 #[.slice a n cap] w (PutPost w l) := by
  by_cases hn : n ≤ 2000
  · refine (refPut_any a n cap l w hB hA hn).mono ?_
    rintro e w' ⟨v, rfl, hO, hb⟩
    refine ⟨v, ?_, ?_, hb⟩
    · unfold putE; rw [hB.1, if_pos hn]; rfl
    · unfold putB; rw [hB.1, if_pos hn]; exact hO
  · refine (refPut_long a n cap w (by omega) hm).mono ?_
    rintro e w' ⟨rfl, rfl⟩
    refine ⟨.slice none 0 0, ?_, ?_, Below.refl _ _⟩
    · unfold putE; rw [hB.1, if_neg hn]; rfl
    · unfold putB; rw [hB.1, if_neg hn]; exact Own.nil _ _

/-- The new row of two slices. -/
theorem lrow_two (w : World) (B : Nat) (hB : B ≤ w.heap.size) (u v : Value) : LRow (w.alloc (.cells #[u, v] 22)) B (.slice (some ⟨w.heap.size, 0, none⟩) 2 2) [u, v] :=
  ⟨rfl, .inr ⟨w.heap.size, 2, #[u, v], rfl, hB, Lies.made w 22 _, Nat.le_refl _, by unfold maxLen; omega, rfl, rfl⟩⟩

set_option maxRecDepth 100000 in
set_option maxHeartbeats 2000000 in
theorem puts_short (a : Option Addr) (n cap : Nat) (l : List Nat) (i : Int) (w : World) (hI : InBytes w a n cap l) (hn : n ≤ 6000) :
    Calls Try.prog 3 #[.slice a n cap, .int .i64 i] w fun e w' => e = .returned (.bool true) ∧ Below w.heap.size w w' := by
  obtain ⟨hB, hnc, hcm, hA⟩ := hI
  have HB := Lib.hid hB
  have HA := Lib.hid hA
  have hpb : (putB l).length ≤ 10000 := by unfold putB; split <;> simp [Frm.frm_len]; omega
  have hpc : n ≤ 2000 → (putB l).length = 8 + n ∧ putE l = 0 := fun h => by unfold putB putE; rw [hB.1, if_pos h, if_pos h, Frm.frm_len, hB.1]; omega
  have hpd : ¬ n ≤ 2000 → putE l = 3 := fun h => by unfold putE; rw [hB.1, if_neg h]
  have HPC := Lib.hid hpc
  have HPD := Lib.hid hpd
  clear hB hA hpc hpd
  go_enter Try.func3, Try.ntmps3
  go_wp2_with fail
  with_reducible refine (lent_own _ _ _ _ _ HB.out HA.out (by omega)).mono ?_
  rintro e w1 ⟨g, c, rfl, hc1, hc2, hg, hOx, hb1⟩
  have HOX := Lib.hid hOx
  have HX := Lib.hid hOx.bys.1
  have HX1 := Lib.hid (hOx.bys.1.part HB.out.1)
  have HB1 := Lib.hid (HB.out.below hb1)
  have hglt := hOx.lt g rfl
  clear hOx
  go_wp2_with fail
  with_reducible refine (put_gen _ _ _ _ _ HX1.out ?h0 (small_len _ (by omega))).mono ?_
  case h0 => intro h; cases h
  rintro e w2 ⟨v2, rfl, hO2, hb2⟩
  obtain ⟨A2, c2, rfl, _, _, _, _⟩ := hO2.slice
  have HO2 := Lib.hid hO2
  have HX2 := Lib.hid (HX1.out.below hb2)
  clear hO2
  go_wp2_with fail
  with_reducible refine (put_gen _ _ _ _ _ HX2.out ?h0 (small_len _ (by omega))).mono ?_
  case h0 => intro h; cases h
  rintro e w3 ⟨v3, rfl, hO3, hb3⟩
  obtain ⟨A3, c3, rfl, _, _, _, _⟩ := hO3.slice
  have HO3 := Lib.hid hO3
  clear hO3
  have hb13 := hb2.trans (hb3.mono hb2.size)
  have HX3 := Lib.hid (HX.out.below hb13)
  have HB3 := Lib.hid (HB1.out.below hb13)
  go_wp2_with fail
  with_reducible refine (whole_any _ _ _ _ _ _ _ HX3.out HB3.out hc1 (by omega)).mono ?_
  rintro e w4 ⟨rfl, hb4⟩
  have hb14 := hb13.trans (hb4.mono hb13.size)
  have HOX4 := Lib.hid (HOX.out.belowOwn hb14)
  have hb34 := hb3.trans (hb4.mono hb3.size)
  go_wp2_with fail
  with_reducible refine (spoil_any _ _ _ _ _ _ _ HOX4.out (by omega) (by omega)).mono ?_
  rintro e w5 ⟨rfl, hg5⟩
  have hb04 := hb1.trans (hb14.mono hb1.size)
  have hb05 : Below w.heap.size w w5 := hb04.grown hg5 hb04.size (fun q hq => by injection hq with hq; omega)
  have s12 := hb2.size
  have hO25 := (HO2.out.belowOwn hb34).grownOther hg5 (fun q hq e => by injection e with e; have := HO2.out.block q hq; omega)
  have hO35 := (HO3.out.belowOwn hb4).grownOther hg5 (fun q hq e => by injection e with e; have := HO3.out.block q hq; omega)
  have HO25 := Lib.hid hO25
  have HO35 := Lib.hid hO35
  have HB5 := Lib.hid (HB.out.below hb05)
  have hs15 : w1.heap.size ≤ w5.heap.size := Nat.le_trans hb14.size hg5.size
  clear hO25 hO35
  go_wp2_with fail
  with_reducible refine (refPut_gen _ _ _ _ _ HB5.out HA.out (small_len _ (by omega))).mono ?_
  rintro e w6 ⟨v6, rfl, hO6, hb6⟩
  obtain ⟨A6, c6, rfl, _, _, _, _⟩ := hO6.slice
  have hb06 := hb05.trans (hb6.mono hb05.size)
  have hO26 := HO25.out.belowOwn hb6
  have hO36 := HO35.out.belowOwn hb6
  have hs16 : w1.heap.size ≤ w6.heap.size := Nat.le_trans hs15 hb6.size
  have hall : OwnAll w6 w1.heap.size ([] ++ [.slice A2 (putB l).length c2] ++ [.slice A3 (putB l).length c3]) ([] ++ [putB l] ++ [putB l]) := by
    refine OwnAll.snoc (OwnAll.snoc (OwnAll.nil _ _) hO26 (fun v hv => by simp at hv)) (hO36.mono s12) ?_
    intro v hv q hq e
    simp at hv
    subst hv
    have h1 := HO2.out.lt q hq
    have h2 := HO3.out.block q e
    omega
  have howc := own_list (some ⟨w6.heap.size, 0, none⟩) 2 2 _ _ w1.heap.size (w6.alloc (.cells #[.slice A2 (putB l).length c2, .slice A3 (putB l).length c3] 22)) (lrow_two w6 w1.heap.size hs16 _ _) (hall.map fun _ _ h => h.alloc _) rfl (by omega) (fun x hx => by simp at hx; subst hx; exact hpb) (Nat.le_trans hs16 (by simp))
  have OWC := Lib.hid howc
  have HA2 := Lib.hid hO26.bys.1
  have HA3 := Lib.hid hO36.bys.1
  have HA6 := Lib.hid hO6.bys.1
  clear hO26 hO36 hO6 hall howc
  by_cases hn2 : n ≤ 2000
  · obtain ⟨hpl, hpe⟩ := HPC.out hn2
    rw [hpe]
    clear hpe HPC
    generalize (putB l).length = pl at *
    subst hpl
    by_cases hi : 0 ≤ i ∧ i ≤ 2000
    · obtain ⟨k, rfl⟩ := Int.eq_ofNat_of_zero_le hi.1
      have hk2 : k ≤ 2000 := by omega
      have hi2 := hi.2
      clear hi
      go_wp2_with fail
      with_reducible refine (same_any _ _ _ _ _ _ _ _ _ HA2.out HA6.out).mono ?_
      rintro e w7 ⟨rfl, rfl⟩
      rw [sameB_self]
      go_wp2_with fail
      with_reducible refine (same_any _ _ _ _ _ _ _ _ _ HA3.out HA6.out).mono ?_
      rintro e w7 ⟨rfl, rfl⟩
      rw [sameB_self]
      go_wp2_with fail
      with_reducible refine (size_yes k _ hk2).mono ?_
      rintro e w7 ⟨rfl, rfl⟩
      rw [show ((8 + k : Nat) : Int) = (k : Int) + 8 from by omega]
      go_wp2_with fail
      with_reducible refine (size_yes n _ hn2).mono ?_
      rintro e w7 ⟨rfl, rfl⟩
      go_wp2_with fail
      with_reducible refine OWC.out.mono ?_
      rintro e w8 ⟨rfl, hb8⟩
      have hb08 := (hb06.alloc hb06.size _).trans (hb8.mono hb1.size)
      go_wp2_with fail
      with_reducible refine (known_any _).mono ?_
      rintro e w9 ⟨rfl, hb9⟩
      go_wp2
      go_ret
      exact ⟨rfl, hb08.trans (hb9.mono hb08.size)⟩
    · have hi3 : i < 0 ∨ 2000 < i := by omega
      have hsn := size_no i w6 hi3
      have HSN := Lib.hid hsn
      clear hsn
      rcases hi3 with hi3 | hi3
      · have dd : decide (0 ≤ i) = false := by simp; omega
        go_wp2_with fail
        with_reducible refine (same_any _ _ _ _ _ _ _ _ _ HA2.out HA6.out).mono ?_
        rintro e w7 ⟨rfl, rfl⟩
        rw [sameB_self]
        go_wp2_with fail
        with_reducible refine (same_any _ _ _ _ _ _ _ _ _ HA3.out HA6.out).mono ?_
        rintro e w7 ⟨rfl, rfl⟩
        rw [sameB_self]
        go_wp2_with fail
        with_reducible refine HSN.out.mono ?_
        rintro e w7 ⟨rfl, rfl⟩
        go_wp2_with fail
        with_reducible refine (size_yes n _ hn2).mono ?_
        rintro e w7 ⟨rfl, rfl⟩
        go_wp2_with fail
        with_reducible refine OWC.out.mono ?_
        rintro e w8 ⟨rfl, hb8⟩
        have hb08 := (hb06.alloc hb06.size _).trans (hb8.mono hb1.size)
        go_wp2_with fail
        with_reducible refine (known_any _).mono ?_
        rintro e w9 ⟨rfl, hb9⟩
        go_wp2
        go_ret
        exact ⟨rfl, hb08.trans (hb9.mono hb08.size)⟩
      · have dd : decide (0 ≤ i) = true := by simp; omega
        have dd2 : decide (i ≤ 2000) = false := by simp; omega
        go_wp2_with fail
        with_reducible refine (same_any _ _ _ _ _ _ _ _ _ HA2.out HA6.out).mono ?_
        rintro e w7 ⟨rfl, rfl⟩
        rw [sameB_self]
        go_wp2_with fail
        with_reducible refine (same_any _ _ _ _ _ _ _ _ _ HA3.out HA6.out).mono ?_
        rintro e w7 ⟨rfl, rfl⟩
        rw [sameB_self]
        go_wp2_with fail
        with_reducible refine HSN.out.mono ?_
        rintro e w7 ⟨rfl, rfl⟩
        go_wp2_with fail
        with_reducible refine (size_yes n _ hn2).mono ?_
        rintro e w7 ⟨rfl, rfl⟩
        go_wp2_with fail
        with_reducible refine OWC.out.mono ?_
        rintro e w8 ⟨rfl, hb8⟩
        have hb08 := (hb06.alloc hb06.size _).trans (hb8.mono hb1.size)
        go_wp2_with fail
        with_reducible refine (known_any _).mono ?_
        rintro e w9 ⟨rfl, hb9⟩
        go_wp2
        go_ret
        exact ⟨rfl, hb08.trans (hb9.mono hb08.size)⟩
  · have hpe := HPD.out hn2
    rw [hpe]
    clear hpe
    generalize (putB l).length = pl at *
    by_cases hi : 0 ≤ i ∧ i ≤ 2000
    · obtain ⟨k, rfl⟩ := Int.eq_ofNat_of_zero_le hi.1
      have hk2 : k ≤ 2000 := by omega
      have hi2 := hi.2
      clear hi
      go_wp2_with fail
      with_reducible refine (same_any _ _ _ _ _ _ _ _ _ HA2.out HA6.out).mono ?_
      rintro e w7 ⟨rfl, rfl⟩
      rw [sameB_self]
      go_wp2_with fail
      with_reducible refine (same_any _ _ _ _ _ _ _ _ _ HA3.out HA6.out).mono ?_
      rintro e w7 ⟨rfl, rfl⟩
      rw [sameB_self]
      go_wp2_with fail
      with_reducible refine (size_yes k _ hk2).mono ?_
      rintro e w7 ⟨rfl, rfl⟩
      rw [show ((8 + k : Nat) : Int) = (k : Int) + 8 from by omega]
      go_wp2_with fail
      with_reducible refine OWC.out.mono ?_
      rintro e w8 ⟨rfl, hb8⟩
      have hb08 := (hb06.alloc hb06.size _).trans (hb8.mono hb1.size)
      go_wp2_with fail
      with_reducible refine (known_any _).mono ?_
      rintro e w9 ⟨rfl, hb9⟩
      go_wp2
      go_ret
      exact ⟨rfl, hb08.trans (hb9.mono hb08.size)⟩
    · have hi3 : i < 0 ∨ 2000 < i := by omega
      have hsn := size_no i w6 hi3
      have HSN := Lib.hid hsn
      clear hsn
      rcases hi3 with hi3 | hi3
      · have dd : decide (0 ≤ i) = false := by simp; omega
        go_wp2_with fail
        with_reducible refine (same_any _ _ _ _ _ _ _ _ _ HA2.out HA6.out).mono ?_
        rintro e w7 ⟨rfl, rfl⟩
        rw [sameB_self]
        go_wp2_with fail
        with_reducible refine (same_any _ _ _ _ _ _ _ _ _ HA3.out HA6.out).mono ?_
        rintro e w7 ⟨rfl, rfl⟩
        rw [sameB_self]
        go_wp2_with fail
        with_reducible refine HSN.out.mono ?_
        rintro e w7 ⟨rfl, rfl⟩
        go_wp2_with fail
        with_reducible refine OWC.out.mono ?_
        rintro e w8 ⟨rfl, hb8⟩
        have hb08 := (hb06.alloc hb06.size _).trans (hb8.mono hb1.size)
        go_wp2_with fail
        with_reducible refine (known_any _).mono ?_
        rintro e w9 ⟨rfl, hb9⟩
        go_wp2
        go_ret
        exact ⟨rfl, hb08.trans (hb9.mono hb08.size)⟩
      · have dd : decide (0 ≤ i) = true := by simp; omega
        have dd2 : decide (i ≤ 2000) = false := by simp; omega
        go_wp2_with fail
        with_reducible refine (same_any _ _ _ _ _ _ _ _ _ HA2.out HA6.out).mono ?_
        rintro e w7 ⟨rfl, rfl⟩
        rw [sameB_self]
        go_wp2_with fail
        with_reducible refine (same_any _ _ _ _ _ _ _ _ _ HA3.out HA6.out).mono ?_
        rintro e w7 ⟨rfl, rfl⟩
        rw [sameB_self]
        go_wp2_with fail
        with_reducible refine HSN.out.mono ?_
        rintro e w7 ⟨rfl, rfl⟩
        go_wp2_with fail
        with_reducible refine OWC.out.mono ?_
        rintro e w8 ⟨rfl, hb8⟩
        have hb08 := (hb06.alloc hb06.size _).trans (hb8.mono hb1.size)
        go_wp2_with fail
        with_reducible refine (known_any _).mono ?_
        rintro e w9 ⟨rfl, hb9⟩
        go_wp2
        go_ret
        exact ⟨rfl, hb08.trans (hb9.mono hb08.size)⟩

set_option maxHeartbeats 400000 in
theorem puts_long (a : Option Addr) (n cap : Nat) (i : Int) (w : World) (hn : 6000 < n) (hm : n ≤ maxLen) :
    Calls Try.prog 3 #[.slice a n cap, .int .i64 i] w fun e w' => e = .returned (.bool true) ∧ Below w.heap.size w w' := by
  unfold maxLen at hm
  go_enter Try.func3, Try.ntmps3
  go_wp2_with fail
  with_reducible refine (known_any _).mono ?_
  rintro e w2 ⟨rfl, hb⟩
  go_wp2
  go_ret
  exact ⟨rfl, hb⟩

theorem framePuts_walk (a : Option Addr) (n cap : Nat) (l : List Nat) (i : Int) (w : World) (hI : InBytes w a n cap l) (_hi : (Lit.int .i64 i).wf = true) :
    Calls Try.prog 3 #[.slice a n cap, .int .i64 i] w fun e w' => e = .returned (.bool true) ∧ Below w.heap.size w w' := by
  by_cases hn : n ≤ 6000
  · exact puts_short a n cap l i w hI hn
  · exact puts_long a n cap i w (by omega) (by have := hI.2; omega)

end Go.Proofs.Ytaehagejmeimiaa
