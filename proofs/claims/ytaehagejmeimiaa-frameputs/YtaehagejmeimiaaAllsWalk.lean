/-
  The walk of FrameAlls, out of the contracts.
-/
import Derived.Test.YtaehagejmeimiaaOwnFn
import Derived.Test.YtaehagejmeimiaaRefAll
namespace Go.Proofs.Ytaehagejmeimiaa
open Go.RowKit

theorem own_list (A : Option Addr) (n c : Nat) (vs : List Value) (ls : List (List Nat)) (B : Nat) (w : World) (hL : LRow w B (.slice A n c) vs) (hO : OwnAll w B vs ls) (hn : vs.length = n) (h40 : n ≤ 40) (hlen : ∀ x ∈ ls, x.length ≤ 10000) (hB : B ≤ w.heap.size) :
    Calls Try.prog 19 #[.slice A n c] w fun e w' => e = .returned (.bool true) ∧ Below B w w' := by
  have hvl := hO.1
  have hv : ∀ j (h : j < n), vs.getD j undef = vs[j]'(by omega) := fun j h => by simp [List.getD, show j < vs.length by omega]
  have hm : ∀ j (h : j < n), ls.getD j [] = ls[j]'(by omega) := fun j h => by simp [List.getD, show j < ls.length by omega]
  refine own_any A n c vs (fun j => vs.getD j undef) (fun j => (ls.getD j []).length) (fun j => ls.getD j []) B w ⟨hL, fun j hj => ?_, fun j hj => rfl, fun j hj => by omega, Below.refl _ _⟩ ?_ (fun j hj => ?_) h40 (fun j hj => ?_) hB
  · simp only [hv j hj, hm j hj]
    exact hO.2.1 j _ _
  · intro i j hi hj hij g hg
    simp only [hv i hi] at hg
    simp only [hv j hj]
    rcases Nat.lt_or_gt_of_ne hij with h | h
    · exact hO.2.2 i j _ _ h g hg
    · intro e
      exact hO.2.2 j i _ _ h g e hg
  · rw [hv j hj, List.getElem?_eq_getElem]
  · simp only [hm j hj]
    exact hlen _ (List.getElem_mem _)

set_option maxRecDepth 100000 in
set_option maxHeartbeats 2000000 in
theorem alls_short (a : Option Addr) (n cap : Nat) (l : List Nat) (w : World) (hI : InBytes w a n cap l) (hn : n ≤ 6000) :
    Calls Try.prog 5 #[.slice a n cap] w fun e w' => e = .returned (.bool true) ∧ Below w.heap.size w w' := by
  obtain ⟨hB, hnc, hcm, hA⟩ := hI
  have HB := Lib.hid hB
  have HA := Lib.hid hA
  have HCM := Lib.hid hcm
  clear hB hA
  go_enter Try.func5, Try.ntmps5
  go_wp2_with fail
  with_reducible refine (lent_own _ _ _ _ _ HB.out HA.out (by omega)).mono ?_
  rintro e w1 ⟨g, c, rfl, hc1, hc2, hg, hOx, hb1⟩
  have HOX := Lib.hid hOx
  have HX := Lib.hid hOx.bys.1
  have HX1 := Lib.hid (hOx.bys.1.part HB.out.1)
  have HB1 := Lib.hid (HB.out.below hb1)
  have hglt := hOx.lt g rfl
  clear hOx
  go_wp2_with fail
  with_reducible refine (all_any _ _ _ _ _ HX1.out (by omega) hc2 (by omega)).mono ?_
  rintro e w2 ⟨v2, vs2, ls2, r2, hS2, ho2, rfl, hL2, hO2, hb2⟩
  obtain ⟨A2, c2, rfl, _, hv2c, hv2m, _⟩ := hL2.slice
  have HS2 := Lib.hid hS2
  have HL2 := Lib.hid hL2
  have HO2 := Lib.hid hO2
  have HR2 := Lib.hid ho2
  have HB2 := Lib.hid (HB1.out.below hb2)
  clear hS2 hL2 hO2 ho2
  go_wp2_with fail
  with_reducible refine (refAll_any _ _ _ _ _ HB2.out hnc HCM.out (by omega)).mono ?_
  rintro e w3 ⟨v3, vs3, ls3, r3, hS3, ho3, rfl, hL3, hO3, hb3⟩
  obtain ⟨hle, hre⟩ := hS3.uniq ho3 HR2.out HS2.out.short HS2.out.eq
  rw [hle] at hO3 ⊢
  rw [hre]
  obtain ⟨A3, c3, rfl, _, hv3c, hv3m, _⟩ := hL3.slice
  have HL3 := Lib.hid hL3
  have HO3 := Lib.hid hO3
  clear hS3 hL3 hO3 ho3 hle hre
  have hb13 := hb2.trans (hb3.mono hb2.size)
  have HX3 := Lib.hid (HX.out.below hb13)
  have HB3 := Lib.hid (HB1.out.below hb13)
  go_wp2_with fail
  with_reducible refine (whole_any _ _ _ _ _ _ _ HX3.out HB3.out hc1 (by omega)).mono ?_
  rintro e w4 ⟨rfl, hb4⟩
  have hb14 := hb13.trans (hb4.mono hb13.size)
  have HOX4 := Lib.hid (HOX.out.belowOwn hb14)
  have hb34 := hb3.trans (hb4.mono hb3.size)
  go_wp2_with fail
  with_reducible refine (spoil_any _ _ _ _ _ _ _ HOX4.out (by omega) (by omega)).mono ?_
  rintro e w5 ⟨rfl, hg5⟩
  have hb04 := hb1.trans (hb14.mono hb1.size)
  have hb05 : Below w.heap.size w w5 := hb04.grown hg5 hb04.size (fun q hq => by injection hq with hq; omega)
  have s12 := hb2.size
  have hL25 : LRow w5 w1.heap.size (.slice A2 vs2.length c2) vs2 := owns_grown (HL2.out.belowRow hb34) HOX4.out.1 (by decide) hg5
  have hL35 : LRow w5 w2.heap.size (.slice A3 vs3.length c3) vs3 := owns_grown (HL3.out.belowRow hb4) HOX4.out.1 (by decide) hg5
  have hO25 : OwnAll w5 w1.heap.size vs2 ls2 := HO2.out.map fun u l h => (h.belowOwn hb34).grownOther hg5 (fun q hq e => by injection e with e; have := h.block q hq; omega)
  have hO35 : OwnAll w5 w2.heap.size vs3 ls2 := HO3.out.map fun u l h => (h.belowOwn hb4).grownOther hg5 (fun q hq e => by injection e with e; have := h.block q hq; omega)
  obtain ⟨A2', c2', hv2', hC2, _⟩ := hL25.slice
  injection hv2' with e1 _ e3
  subst e1 e3
  obtain ⟨A3', c3', hv3', hC3, _⟩ := hL35.slice
  injection hv3' with e4 _ e6
  subst e4 e6
  have hs15 : w1.heap.size ≤ w5.heap.size := Nat.le_trans hb14.size hg5.size
  have HC2 := Lib.hid hC2
  have HC3 := Lib.hid hC3
  have HD2 := Lib.hid hO25.reads
  have HD3 := Lib.hid hO35.reads
  have HL25 := Lib.hid hL25
  have HO25 := Lib.hid hO25
  clear hC2 hC3 hL25 hL35 hO25 hO35
  generalize (Frm.row ls2).length = rl at *
  generalize Frm.endOf r2 = er at *
  go_wp2_with fail
  with_reducible refine (sameLists_any _ _ _ _ _ _ _ _ _ _ _ HC2.out HC3.out HD2.out HD3.out (by omega) (by omega)).mono ?_
  rintro e w6 ⟨rfl, q, rfl⟩
  rw [sameLB_self]
  have hb06 := below_drewN hb05 q
  unfold maxLen at hv2m
  by_cases h40 : vs2.length ≤ 40
  · have d40 : decide ((40 : Int) < (vs2.length : Int)) = false := by simp; omega
    have ownc := own_list A2 vs2.length c2 vs2 ls2 w1.heap.size (w5.drewN q) HL25.out HO25.out rfl h40 (fun x hx => Nat.le_trans (HS2.out.short x hx) (by decide)) hs15
    have OWNC := Lib.hid ownc
    clear ownc
    go_wp2_with fail
    with_reducible refine OWNC.out.mono ?_
    rintro e w7 ⟨rfl, hb7⟩
    have hb07 := hb06.trans (hb7.mono hb1.size)
    go_wp2_with fail
    with_reducible refine (known_any _).mono ?_
    rintro e w8 ⟨rfl, hb8⟩
    go_wp2
    go_ret
    exact ⟨rfl, hb07.trans (hb8.mono hb07.size)⟩
  · have d40 : decide ((40 : Int) < (vs2.length : Int)) = true := by simp; omega
    go_wp2_with fail
    with_reducible refine (known_any _).mono ?_
    rintro e w8 ⟨rfl, hb8⟩
    go_wp2
    go_ret
    exact ⟨rfl, hb06.trans (hb8.mono hb06.size)⟩

set_option maxHeartbeats 400000 in
theorem alls_long (a : Option Addr) (n cap : Nat) (w : World) (hn : 6000 < n) (hm : n ≤ maxLen) :
    Calls Try.prog 5 #[.slice a n cap] w fun e w' => e = .returned (.bool true) ∧ Below w.heap.size w w' := by
  unfold maxLen at hm
  go_enter Try.func5, Try.ntmps5
  go_wp2_with fail
  with_reducible refine (known_any _).mono ?_
  rintro e w2 ⟨rfl, hb⟩
  go_wp2
  go_ret
  exact ⟨rfl, hb⟩

theorem frameAlls_walk (a : Option Addr) (n cap : Nat) (l : List Nat) (w : World) (hI : InBytes w a n cap l) :
    Calls Try.prog 5 #[.slice a n cap] w fun e w' => e = .returned (.bool true) ∧ Below w.heap.size w w' := by
  by_cases hn : n ≤ 6000
  · exact alls_short a n cap l w hI hn
  · exact alls_long a n cap w (by omega) (by have := hI.2; omega)

end Go.Proofs.Ytaehagejmeimiaa
