/-
  The walk of FrameGets, out of the contracts.
-/
import Derived.Test.YtaehagejmeimiaaLend
namespace Go.Proofs.Ytaehagejmeimiaa
open Go.RowKit

set_option maxRecDepth 100000 in
set_option maxHeartbeats 1000000 in
theorem gets_short (a : Option Addr) (n cap : Nat) (l : List Nat) (i : Int) (w : World) (hI : InBytes w a n cap l) (hn : n ≤ 6000) :
    Calls Try.prog 4 #[.slice a n cap, .int .i64 i] w fun e w' => e = .returned (.bool true) ∧ Below w.heap.size w w' := by
  obtain ⟨hB, hnc, hcm, hA⟩ := hI
  have HB := Lib.hid hB
  have HA := Lib.hid hA
  have HCM := Lib.hid hcm
  clear hB hA
  go_enter Try.func4, Try.ntmps4
  go_wp2_with fail
  with_reducible refine (lent_own _ _ _ _ _ HB.out HA.out (by omega)).mono ?_
  rintro e w1 ⟨g, c, rfl, hc1, hc2, hg, hOx, hb1⟩
  have HOX := Lib.hid hOx
  have HX := Lib.hid hOx.bys.1
  have HX1 := Lib.hid (hOx.bys.1.part HB.out.1)
  have HB1 := Lib.hid (HB.out.below hb1)
  have hglt := hOx.lt g rfl
  clear hOx
  go_wp2_with fail
  with_reducible refine (get_any _ _ _ _ _ _ HX1.out (by omega) hc2).mono ?_
  rintro e w2 ⟨v2, rfl, hO2, hb2⟩
  obtain ⟨A2, c2, rfl, _, _, _, _⟩ := hO2.slice
  have HO2 := Lib.hid hO2
  have HB2 := Lib.hid (HB1.out.below hb2)
  clear hO2
  go_wp2_with fail
  with_reducible refine (refGet_any _ _ _ _ _ _ HB2.out hnc HCM.out (by omega)).mono ?_
  rintro e w3 ⟨v3, rfl, hO3, hb3⟩
  obtain ⟨A3, c3, rfl, _, _, _, _⟩ := hO3.slice
  have HO3 := Lib.hid hO3
  clear hO3
  have hb13 := hb2.trans (hb3.mono hb2.size)
  have HX3 := Lib.hid (HX.out.below hb13)
  have HB3 := Lib.hid (HB1.out.below hb13)
  go_wp2_with fail
  with_reducible refine (whole_any _ _ _ _ _ _ _ HX3.out HB3.out hc1 (by omega)).mono ?_
  rintro e w4 ⟨rfl, hb4⟩
  have hb14 := hb13.trans (hb4.mono hb13.size)
  have HOX4 := Lib.hid (HOX.out.belowOwn hb14)
  have hb34 := hb3.trans (hb4.mono hb3.size)
  have HO24 := Lib.hid (HO2.out.belowOwn hb34)
  have HO34 := Lib.hid (HO3.out.belowOwn hb4)
  go_wp2_with fail
  with_reducible refine (spoil_any _ _ _ _ _ _ _ HOX4.out (by omega) (by omega)).mono ?_
  rintro e w5 ⟨rfl, hg5⟩
  have hb04 := hb1.trans (hb14.mono hb1.size)
  have hb05 : Below w.heap.size w w5 := hb04.grown hg5 hb04.size (fun q hq => by injection hq with hq; omega)
  have hB25 := (HO24.out.grownOther hg5 (fun q hq e => by injection e with e; have := HO24.out.block q hq; omega)).bys.1
  have hB35 := (HO34.out.grownOther hg5 (fun q hq e => by injection e with e; have := HO34.out.block q hq; have := hb2.size; omega)).bys.1
  have HB25 := Lib.hid hB25
  have HB35 := Lib.hid hB35
  clear hB25 hB35
  generalize Frm.getS l i = gs at *
  go_wp2_with fail
  with_reducible refine (same_any _ _ _ _ _ _ _ _ _ HB25.out HB35.out).mono ?_
  rintro e w6 ⟨rfl, rfl⟩
  rw [sameB_self]
  go_wp2_with fail
  with_reducible refine (known_any _).mono ?_
  rintro e w7 ⟨rfl, hb7⟩
  go_wp2
  go_ret
  exact ⟨rfl, hb05.trans (hb7.mono hb05.size)⟩

set_option maxHeartbeats 400000 in
theorem gets_long (a : Option Addr) (n cap : Nat) (i : Int) (w : World) (hn : 6000 < n) (hm : n ≤ maxLen) :
    Calls Try.prog 4 #[.slice a n cap, .int .i64 i] w fun e w' => e = .returned (.bool true) ∧ Below w.heap.size w w' := by
  unfold maxLen at hm
  go_enter Try.func4, Try.ntmps4
  go_wp2_with fail
  with_reducible refine (known_any _).mono ?_
  rintro e w2 ⟨rfl, hb⟩
  go_wp2
  go_ret
  exact ⟨rfl, hb⟩

theorem frameGets_walk (a : Option Addr) (n cap : Nat) (l : List Nat) (i : Int) (w : World) (hI : InBytes w a n cap l) (_hi : (Lit.int .i64 i).wf = true) :
    Calls Try.prog 4 #[.slice a n cap, .int .i64 i] w fun e w' => e = .returned (.bool true) ∧ Below w.heap.size w w' := by
  by_cases hn : n ≤ 6000
  · exact gets_short a n cap l i w hI hn
  · exact gets_long a n cap i w (by omega) (by have := hI.2; omega)

end Go.Proofs.Ytaehagejmeimiaa
