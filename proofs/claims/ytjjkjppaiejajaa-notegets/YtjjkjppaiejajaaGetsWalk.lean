/-
  The walk of NoteGets, out of the contracts.
-/
import Derived.Test.YtjjkjppaiejajaaRGet
import Derived.Test.YtjjkjppaiejajaaOwnFn
import Derived.Test.YtjjkjppaiejajaaLend
import Derived.Test.YtjjkjppaiejajaaKnown
import Derived.Test.YtjjkjppaiejajaaSame5
import Derived.Test.YtjjkjppaiejajaaNIn
namespace Go.Proofs.Ytjjkjppaiejajaa
open Go.RowKit
set_option linter.unusedVariables false

/-- The new row of two slices. -/
theorem row_two (w : World) (B : Nat) (hB : B ≤ w.heap.size) (u v : Value) : LRow (w.alloc (.cells #[u, v] 24)) B (.slice (some ⟨w.heap.size, 0, none⟩) 2 2) [u, v] :=
  ⟨rfl, .inr ⟨w.heap.size, 2, #[u, v], rfl, hB, Lies.made w 24 _, Nat.le_refl _, by unfold maxLen; omega, rfl, rfl⟩⟩

set_option maxRecDepth 100000 in
set_option maxHeartbeats 400000 in
theorem gets_long (a : Option Addr) (n cap : Nat) (w : World) (h : 2000 < n) (hm : n ≤ maxLen) :
    Calls Try.prog 4 #[.slice a n cap] w fun x w' => x = .returned (.bool true) ∧ Below w.heap.size w w' := by
  have h1 : (2000 : Int) < (n : Int) := by omega
  go_enter Try.func4, Try.ntmps4
  go_wp2_with fail
  with_reducible refine (known_any _).mono ?_
  rintro x w2 ⟨rfl, hb2⟩
  go_wp2
  go_ret
  exact ⟨rfl, hb2⟩

set_option maxRecDepth 100000 in
set_option maxHeartbeats 4000000 in
theorem gets_short (a : Option Addr) (n cap : Nat) (l : List Nat) (w : World) (hI : InBytes w a n cap l) (hn : n ≤ 2000) :
    Calls Try.prog 4 #[.slice a n cap] w fun x w' => x = .returned (.bool true) ∧ Below w.heap.size w w' := by
  obtain ⟨hB, hnc, hcm, hA⟩ := hI
  obtain ⟨hbnd, hkl, hdl⟩ := gotE_bnd l hB.2.1
  have hlen := hB.1
  have h1 : ¬ (2000 : Int) < (n : Int) := by omega
  obtain ⟨ge, hge⟩ : ∃ e, gotE l = e := ⟨_, rfl⟩
  obtain ⟨gc, hgc⟩ : ∃ c, gotC l = c := ⟨_, rfl⟩
  have CG := Lib.hid (fun A N C W (h : Bys W A N l) (hN : N ≤ 100000) => got_any A N C l W h hN)
  have CR := Lib.hid (fun W (h : Bys W a n l) => rgot_any a n cap l W h (by omega) hnc hcm)
  unfold GotPost at CG
  unfold RGotPost at CR
  rw [hge, hgc] at CG CR
  rw [hge] at hbnd hkl hdl
  have HB := Lib.hid hB
  have HBND := Lib.hid hbnd
  have HKL := Lib.hid hkl
  have HDL := Lib.hid hdl
  have HLEN := Lib.hid hlen
  have CL := Lib.hid (lent_own a n cap l w hB hA (by omega))
  clear hB hbnd hkl hdl hge hgc hlen hA
  go_enter Try.func4, Try.ntmps4
  go_wp2_with fail
  with_reducible refine CL.out.mono ?_
  rintro x w1 ⟨g, c, rfl, hc1, hc2, hg, hO1, hb1⟩
  have hglt := hO1.lt g rfl
  have CG1 := Lib.hid (CG.out (some ⟨g, 0, none⟩) n c w1 (hO1.bys.1.part HLEN.out) (by omega))
  have HO1 := Lib.hid hO1
  have BB1 := Lib.hid hb1
  clear hO1 hb1 CL CG
  go_wp2_with fail
  with_reducible refine CG1.out.mono ?_
  rintro x w2 ⟨K, D, rfl, hK2, hD2, hne, hb2⟩
  obtain ⟨A1, A2, c1, c2, rfl, rfl, _⟩ := EntV.own hK2 hD2 HBND.out
  obtain ⟨n1, hn1⟩ : ∃ n, ge.key.length = n := ⟨_, rfl⟩
  obtain ⟨n2, hn2⟩ : ∃ n, ge.data.length = n := ⟨_, rfl⟩
  rw [hn1] at hK2 hne ⊢
  rw [hn2] at hD2 hne ⊢
  have hs12 := hb2.size
  have HNE := Lib.hid hne
  have b2e := (Below.refl w2.heap.size w2).alloc (Nat.le_refl _) (.cells (evs ge (.slice A1 n1 c1) (.slice A2 n2 c2)) 26)
  have LE2 := Lib.hid (Lies.made w2 26 (evs ge (.slice A1 n1 c1) (.slice A2 n2 c2)))
  have HK2 := Lib.hid (hK2.belowOwn b2e)
  have HD2 := Lib.hid (hD2.belowOwn b2e)
  have HO2 := Lib.hid ((HO1.out.belowOwn hb2).belowOwn b2e)
  have bb2 := (BB1.out.trans (hb2.mono BB1.out.size))
  have BB2 := Lib.hid (bb2.trans (b2e.mono bb2.size))
  have CR2 := Lib.hid (CR.out _ (HB.out.below BB2.out))
  have HN1 := Lib.hid hn1
  have HN2 := Lib.hid hn2
  have hsz : (w2.alloc (.cells (evs ge (.slice A1 n1 c1) (.slice A2 n2 c2)) 26)).heap.size = w2.heap.size + 1 := size_one _ _
  obtain ⟨p1, hp1⟩ : ∃ p, w2.heap.size = p := ⟨_, rfl⟩
  rw [hp1] at LE2 hsz
  have HSZ := Lib.hid hsz
  clear hK2 hD2 hne hb2 b2e bb2 CG1 HO1 BB1 CR hn1 hn2 hsz
  go_wp2_with fail
  with_reducible refine CR2.out.mono ?_
  rintro x w3 ⟨K', D', rfl, hK3, hD3, hb3⟩
  rw [HSZ.out] at hK3 hD3
  obtain ⟨B1, B2, d1, d2, rfl, rfl, _⟩ := EntV.tx hK3 hD3 HBND.out
  rw [HN1.out] at hK3 ⊢
  rw [HN2.out] at hD3 ⊢
  have b3e := (Below.refl w3.heap.size w3).alloc (Nat.le_refl _) (.cells (evs ge (.slice B1 n1 d1) (.slice B2 n2 d2)) 26)
  have le3 := LE2.out.below hb3 LE2.out.lt
  have hlt3 := le3.lt
  have LE3 := Lib.hid (le3.below b3e le3.lt)
  obtain ⟨p2, hp2⟩ : ∃ p, w3.heap.size = p := ⟨_, rfl⟩
  have lw3 := Lies.made w3 26 (evs ge (.slice B1 n1 d1) (.slice B2 n2 d2))
  rw [hp2] at lw3 hlt3
  have LW3 := Lib.hid lw3
  have HK3 := Lib.hid ((HK2.out.belowOwn hb3).belowOwn b3e)
  have HD3 := Lib.hid ((HD2.out.belowOwn hb3).belowOwn b3e)
  have HO3 := Lib.hid ((HO2.out.belowOwn hb3).belowOwn b3e)
  have TK3 := Lib.hid (hK3.below b3e)
  have TD3 := Lib.hid (hD3.below b3e)
  have bb3 := BB2.out.trans (hb3.mono BB2.out.size)
  have BB3 := Lib.hid (bb3.trans (b3e.mono bb3.size))
  have CW := Lib.hid (whole_any g n c a cap l _ HO3.out.bys.1 (HB.out.below BB3.out) hc1 (by omega))
  have HP1 := Lib.hid hp1
  clear hK3 hD3 hb3 b3e bb3 CR2 HK2 HD2 HO2 LE2 BB2 le3 lw3 hp1
  go_wp2_with fail
  with_reducible refine CW.out.mono ?_
  rintro x w4 ⟨rfl, hb4⟩
  have LE4 := Lib.hid (LE3.out.below hb4 LE3.out.lt)
  have LW4 := Lib.hid (LW3.out.below hb4 LW3.out.lt)
  have HK4 := Lib.hid (HK3.out.belowOwn hb4)
  have HD4 := Lib.hid (HD3.out.belowOwn hb4)
  have HO4 := Lib.hid (HO3.out.belowOwn hb4)
  have TK4 := Lib.hid (TK3.out.below hb4)
  have TD4 := Lib.hid (TD3.out.below hb4)
  have BB4 := Lib.hid (BB3.out.trans (hb4.mono BB3.out.size))
  have CS := Lib.hid (spoil_any g n c _ _ (n + 2) w4 HO4.out (by omega) (by omega))
  have HP2 := Lib.hid hp2
  clear hb4 CW LE3 LW3 HK3 HD3 HO3 TK3 TD3 BB3 hp2
  go_wp2_with fail
  with_reducible refine CS.out.mono ?_
  rintro x w5 ⟨rfl, hg5⟩
  have hp1w : w1.heap.size ≤ p1 := by rw [← HP1.out]; exact hs12
  have le5 := LE4.out.grown hg5 (fun h => by injection h; omega)
  have lw5 := LW4.out.grown hg5 (fun h => by injection h; omega)
  have hK5 := HK4.out.grownOther hg5 (fun q hq h => by have := HK4.out.block q hq; injection h with h; omega)
  have hD5 := HD4.out.grownOther hg5 (fun q hq h => by have := HD4.out.block q hq; injection h with h; omega)
  have tK5 := TK4.out.grown (show g < p1 + 1 by omega) hg5
  have tD5 := TD4.out.grown (show g < p1 + 1 by omega) hg5
  have bb5 := BB4.out.grown hg5 BB4.out.size (fun q hq => by injection hq with hq; omega)
  have hs5 : w1.heap.size ≤ w5.heap.size := Nat.le_trans hp1w (Nat.le_of_lt le5.lt)
  obtain ⟨X1, X2, y1, y2, q1, q2, hV1⟩ := EntV.own hK5 hD5 HBND.out
  obtain ⟨X3, X4, y3, y4, q3, q4, hV2⟩ := EntV.tx tK5 tD5 HBND.out
  have cs := same5_any ge ge X1 X2 X3 X4 y1 y2 y3 y4 w5 hV1 hV2
  rw [← q1, ← q2, ← q3, ← q4, sameE_self] at cs
  have CSM := Lib.hid cs
  have LE5 := Lib.hid le5
  have LW5 := Lib.hid lw5
  have HK5 := Lib.hid hK5
  have HD5 := Lib.hid hD5
  have BB5 := Lib.hid bb5
  obtain ⟨e0, e1, e2, e3, e4, e5, e6, e7, e8, e9, e10⟩ := le5.cellsE
  obtain ⟨f0, f1, f2, f3, f4, f5, f6, f7, f8, f9, f10⟩ := lw5.cellsE
  clear hg5 CS LE4 LW4 HK4 HD4 HO4 TK4 TD4 BB4 le5 lw5 hK5 hD5 tK5 tD5 bb5 q1 q2 q3 q4 hV1 hV2 cs
  go_wp2_with fail
  with_reducible refine CSM.out.mono ?_
  rintro x w6 ⟨rfl, hb6⟩
  clear e0 e1 e2 e3 e4 e5 e6 e7 e8 e9 e10 f0 f1 f2 f3 f4 f5 f6 f7 f8 f9 f10
  have le6 := LE5.out.below hb6 LE5.out.lt
  obtain ⟨e0, e1, e2, e3, e4, e5, e6, e7, e8, e9, e10⟩ := le6.cellsE
  have hK6 := HK5.out.belowOwn hb6
  have hD6 := HD5.out.belowOwn hb6
  have BB6 := Lib.hid (BB5.out.trans (hb6.mono BB5.out.size))
  have hs6 : w1.heap.size ≤ w6.heap.size := Nat.le_trans hs5 hb6.size
  have hall : OwnAll w6 w1.heap.size ([] ++ [.slice A1 n1 c1] ++ [.slice A2 n2 c2]) ([] ++ [ge.key] ++ [ge.data]) := by
    refine OwnAll.snoc (OwnAll.snoc (OwnAll.nil _ _) hK6 (fun v hv => by simp at hv)) hD6 ?_
    intro v hv g hg
    simp at hv
    subst hv
    exact HNE.out g hg
  have howc := own_list (some ⟨w6.heap.size, 0, none⟩) 2 2 _ _ w1.heap.size (w6.alloc (.cells #[.slice A1 n1 c1, .slice A2 n2 c2] 24)) (row_two w6 w1.heap.size hs6 _ _) (hall.map fun _ _ h => h.alloc _) rfl (by omega) (fun x hx => by simp at hx; rcases hx with rfl | rfl; exact HKL.out; exact HDL.out) (Nat.le_trans hs6 (by simp))
  have COW := Lib.hid howc
  have hs01 : w.heap.size ≤ w1.heap.size := by omega
  clear howc hall hK6 hD6 hb6 le6 CSM LE5 LW5 HK5 HD5 BB5
  go_wp2_with fail
  with_reducible refine COW.out.mono ?_
  rintro x w7 ⟨rfl, hb7⟩
  go_wp2_with fail
  with_reducible refine (known_any _).mono ?_
  rintro x w8 ⟨rfl, hb8⟩
  go_wp2
  go_ret
  have bx := (BB6.out.alloc BB6.out.size (.cells #[.slice A1 n1 c1, .slice A2 n2 c2] 24)).trans (hb7.mono hs01)
  exact ⟨rfl, bx.trans (hb8.mono bx.size)⟩

theorem noteGets_walk (a : Option Addr) (n cap : Nat) (l : List Nat) (w : World) (hI : InBytes w a n cap l) :
    Calls Try.prog 4 #[.slice a n cap] w fun x w' => x = .returned (.bool true) ∧ Below w.heap.size w w' := by
  by_cases h : 2000 < n
  · exact gets_long a n cap w h (Nat.le_trans hI.2.1 hI.2.2.1)
  · exact gets_short a n cap l w hI (by omega)

end Go.Proofs.Ytjjkjppaiejajaa
