/-
  What the sort compares by: days, then orders.
-/
import Derived.Test.YtnajombhlmbopaaLayS
import Derived.Test.YtnajombhlmbopaaSMath
import Derived.Test.YtnajombhlmbopaaStillS
import Derived.Lib.Walk
namespace Go.Proofs.Ytnajombhlmbopaa
open Go.Proofs Go.Shelf Go.RowKit Go.Lib Go.Sort
set_option maxRecDepth 100000
set_option linter.unusedVariables false
set_option linter.unusedSimpArgs false

theorem cmp31 (x y : Int) (w : World) :
    Calls Try.prog 31 #[.int .i64 x, .int .i64 y] w fun e w' => e = .returned (.int .i64 (Lib.compareInt x y)) ∧ w = w' := by
  go_enter Try.func31, Try.ntmps31
  go_wp2
  all_goals (go_ret; refine ⟨?_, rfl⟩; unfold Lib.compareInt; (repeat' split) <;> first | rfl | (exfalso; omega))
theorem cmp32 (x y : Int) (w : World) :
    Calls Try.prog 32 #[.int .u32 x, .int .u32 y] w fun e w' => e = .returned (.int .i64 (Lib.compareInt x y)) ∧ w = w' := by
  go_enter Try.func32, Try.ntmps32
  go_wp2
  all_goals (go_ret; refine ⟨?_, rfl⟩; unfold Lib.compareInt; (repeat' split) <;> first | rfl | (exfalso; omega))
def orI (a b : Int) : Int := if a = 0 then b else a
def OrR (a : Int) (b : Int) (v : Value) : Prop := ∃ j : Nat, j ≤ 2 ∧ v = .int .i64 (j : Int) ∧ (1 ≤ j → a = 0) ∧ (2 ≤ j → b = 0)
theorem or30 (a b : Int) (g : Nat) (w : World) (hL : Lies w g 3 #[.int .i64 a, .int .i64 b]) :
    Calls Try.prog 30 #[.slice (some ⟨g, 0, none⟩) 2 2] w fun e w' => e = .returned (.int .i64 (orI a b)) ∧ w = w' := by
  have c0 : w.cell? ⟨g, 0, none⟩ = some (.int .i64 a) := hL.cell 0
  have c1 : w.cell? ⟨g, 1, none⟩ = some (.int .i64 b) := hL.cell 1
  clear hL
  go_enter Try.func30, Try.ntmps30
  go_wp2_with fail
  go_loop [8] (fun v => OrR a b v) (fun i => 2 - (intOf i).toNat)
  case atStart => exact ⟨0, by omega, rfl, fun h => by omega, fun h => by omega⟩
  case round =>
    obtain ⟨j, hj, rfl, h1, h2⟩ := hrel
    rcases (by omega : j = 0 ∨ j = 1 ∨ j = 2) with rfl | rfl | rfl
    · rw [show ((0 : Nat) : Int) = 0 from rfl]
      by_cases ha : a = 0
      · have e1 : (a == 0) = true := by simpa using ha
        have e2 : (a != 0) = false := by simpa using ha
        have HA := Lib.hid ha
        clear ha h1 h2
        go_wp2
        go_round
        case rel => exact ⟨1, by omega, rfl, fun _ => HA.out, fun h => by omega⟩
        case measure => simp [intOf]
      · have e1 : (a == 0) = false := by simpa using ha
        have e2 : (a != 0) = true := by simpa using ha
        have HA : Hid (orI a b = a) := Lib.hid (by unfold orI; rw [if_neg ha])
        clear ha h1 h2
        go_wp2
        go_ret
        exact ⟨by rw [HA.out]; rfl, rfl⟩
    · rw [show ((1 : Nat) : Int) = 1 from rfl]
      have HO : Hid (orI a b = b) := Lib.hid (by unfold orI; rw [if_pos (h1 (by omega))])
      have H1 := Lib.hid (h1 (by omega))
      by_cases hb : b = 0
      · have e1 : (b == 0) = true := by simpa using hb
        have e2 : (b != 0) = false := by simpa using hb
        have HB := Lib.hid hb
        clear hb h1 h2
        go_wp2
        go_round
        case rel => exact ⟨2, by omega, rfl, fun _ => H1.out, fun _ => HB.out⟩
        case measure => simp [intOf]
      · have e1 : (b == 0) = false := by simpa using hb
        have e2 : (b != 0) = true := by simpa using hb
        clear hb h1 h2
        go_wp2
        go_ret
        exact ⟨by rw [HO.out]; rfl, rfl⟩
    · rw [show ((2 : Nat) : Int) = 2 from rfl]
      have HO : Hid (orI a b = 0) := Lib.hid (by unfold orI; rw [if_pos (h1 (by omega)), h2 (by omega)])
      clear h1 h2
      go_wp2
      go_ret
      exact ⟨by rw [HO.out]; rfl, rfl⟩

def encH (h : Hd) : List Value := [.int .u32 (h.o : Int), .int .i64 (h.d : Int), .int .i64 h.k]
def cfH (x y : Hd) : Int := orI (Lib.compareInt x.d y.d) (Lib.compareInt x.o y.o)

theorem close29 (x y : Hd) (W : World) : Calls Try.prog 29 #[.agg #[.int .u32 (x.o : Int), .int .i64 (x.d : Int), .int .i64 x.k], .agg #[.int .u32 (y.o : Int), .int .i64 (y.d : Int), .int .i64 y.k]] W fun e w' => e = .returned (.int .i64 (cfH x y)) ∧ ∃ q os', w' = grow (W.drewN q) os' := by
  have C1 := fun W => cmp31 x.d y.d W
  have C2 := fun W => cmp32 x.o y.o W
  unfold cfH
  generalize Lib.compareInt x.d y.d = r1 at *
  generalize Lib.compareInt x.o y.o = r2 at *
  have C3 := Lib.hid (fun g w hL => or30 r1 r2 g w hL)
  go_enter Try.func29, Try.ntmps29
  go_wp2_with fail
  obtain ⟨W2, hW2⟩ : ∃ W2, W2 = (W.alloc (.cells #[.int .u32 (x.o : Int), .int .i64 (x.d : Int), .int .i64 x.k] 44)).alloc (.cells #[.int .u32 (y.o : Int), .int .i64 (y.d : Int), .int .i64 y.k] 44) := ⟨_, rfl⟩
  rw [← hW2]
  have L1 : Hid (Lies W2 W.heap.size 44 #[.int .u32 (x.o : Int), .int .i64 (x.d : Int), .int .i64 x.k]) := Lib.hid (by rw [hW2]; exact (Lies.made _ _ _).alloc _)
  have L2 : Hid (Lies W2 (W.heap.size + 1) 44 #[.int .u32 (y.o : Int), .int .i64 (y.d : Int), .int .i64 y.k]) := Lib.hid (by rw [hW2]; exact Lies.made2 _ _ _ _)
  have HGR : Hid (∃ os', W2 = grow W os') := Lib.hid ⟨_, by rw [hW2, alloc_eq_grow, alloc_eq_grow, grow_grow]⟩
  clear hW2
  have c0 : W2.cell? ⟨W.heap.size, 0, none⟩ = some (.int .u32 (x.o : Int)) := L1.out.cell 0
  have c1 : W2.cell? ⟨W.heap.size, 1, none⟩ = some (.int .i64 (x.d : Int)) := L1.out.cell 1
  have d0 : W2.cell? ⟨W.heap.size + 1, 0, none⟩ = some (.int .u32 (y.o : Int)) := L2.out.cell 0
  have d1 : W2.cell? ⟨W.heap.size + 1, 1, none⟩ = some (.int .i64 (y.d : Int)) := L2.out.cell 1
  have HC1 : Hid (Calls Try.prog 31 #[.int .i64 (x.d : Int), .int .i64 (y.d : Int)] W2.drew fun e w' => e = .returned (.int .i64 r1) ∧ w' = W2.drew) := Lib.hid ((C1 _).mono fun e w' ⟨h1, h2⟩ => ⟨h1, h2.symm⟩)
  have HC2 : Hid (Calls Try.prog 32 #[.int .u32 (x.o : Int), .int .u32 (y.o : Int)] W2.drew fun e w' => e = .returned (.int .i64 r2) ∧ w' = W2.drew) := Lib.hid ((C2 _).mono fun e w' ⟨h1, h2⟩ => ⟨h1, h2.symm⟩)
  clear C1 C2
  refine wp_region_still_tail 10 (by kernel_rfl) (by kernel_rfl) ?_
  simp only [List.take_succ_cons, List.take_zero, List.drop_succ_cons, List.drop_zero]
  refine still_val 5 ?va0 rfl (by rfl) ?hya0 ?resta0
  case hya0 => (go_simp; (try with_reducible rfl))
  try simp only [Act.put, List.setIfInBounds_toArray, List.set_cons_zero, List.set_cons_succ]
  refine still_val 6 ?va1 rfl (by rfl) ?hya1 ?resta1
  case hya1 => (go_simp; (try with_reducible rfl))
  try simp only [Act.put, List.setIfInBounds_toArray, List.set_cons_zero, List.set_cons_succ]
  refine still_val 7 ?va2 rfl (by rfl) ?hya2 ?resta2
  case hya2 => (go_simp; (try with_reducible rfl))
  try simp only [Act.put, List.setIfInBounds_toArray, List.set_cons_zero, List.set_cons_succ]
  refine still_val 8 ?va3 rfl (by rfl) ?hya3 ?resta3
  case hya3 => (go_simp; (try with_reducible rfl))
  try simp only [Act.put, List.setIfInBounds_toArray, List.set_cons_zero, List.set_cons_succ]
  refine still_cal 9 _ _ _ rfl (by rfl) ?hya4 HC1.out ?resta4
  case hya4 => (go_simp; (try with_reducible rfl))
  try simp only [Act.put, List.setIfInBounds_toArray, List.set_cons_zero, List.set_cons_succ]
  refine still_val 10 ?vb0 rfl (by rfl) ?hyb0 ?restb0
  case hyb0 => (go_simp; (try with_reducible rfl))
  try simp only [Act.put, List.setIfInBounds_toArray, List.set_cons_zero, List.set_cons_succ]
  refine still_val 11 ?vb1 rfl (by rfl) ?hyb1 ?restb1
  case hyb1 => (go_simp; (try with_reducible rfl))
  try simp only [Act.put, List.setIfInBounds_toArray, List.set_cons_zero, List.set_cons_succ]
  refine still_val 12 ?vb2 rfl (by rfl) ?hyb2 ?restb2
  case hyb2 => (go_simp; (try with_reducible rfl))
  try simp only [Act.put, List.setIfInBounds_toArray, List.set_cons_zero, List.set_cons_succ]
  refine still_val 13 ?vb3 rfl (by rfl) ?hyb3 ?restb3
  case hyb3 => (go_simp; (try with_reducible rfl))
  try simp only [Act.put, List.setIfInBounds_toArray, List.set_cons_zero, List.set_cons_succ]
  refine still_cal 14 _ _ _ rfl (by rfl) ?hyb4 HC2.out ?restb4
  case hyb4 => (go_simp; (try with_reducible rfl))
  try simp only [Act.put, List.setIfInBounds_toArray, List.set_cons_zero, List.set_cons_succ]
  refine wpStill_nil ?_
  change wpList _ _ _ _ _ W2.drew
  have C4 : Hid (Calls Try.prog 30 #[.slice (some ⟨W2.heap.size, 0, none⟩) 2 2] (W2.alloc (.cells #[.int .i64 r1, .int .i64 r2] 3)).drew fun e w' => e = .returned (.int .i64 (orI r1 r2)) ∧ (W2.alloc (.cells #[.int .i64 r1, .int .i64 r2] 3)).drew = w') := Lib.hid (C3.out _ _ (Lies.made W2 3 #[.int .i64 r1, .int .i64 r2]))
  clear C3 c0 c1 d0 d1
  go_wp2_with fail
  with_reducible refine C4.out.mono ?_
  rintro e w' ⟨rfl, rfl⟩
  go_wp2
  go_ret
  obtain ⟨os, hos⟩ := HGR.out
  exact ⟨rfl, 1, os ++ #[.cells #[.int .i64 r1, .int .i64 r2] 3], by rw [alloc_eq_grow, hos, grow_grow]; rfl⟩

theorem ltH (x y : Hd) : ltOf cfH x y = decide (Go.Proofs.Ytnajombhlmbopaa.ahead x y) := by
  unfold ltOf cfH orI Lib.compareInt Go.Proofs.Ytnajombhlmbopaa.ahead
  by_cases h1 : x.d < y.d
  · have e1 : (x.d : Int) < (y.d : Int) := by omega
    simp [e1, h1]
  · have e1 : ¬ (x.d : Int) < (y.d : Int) := by omega
    by_cases h2 : y.d < x.d
    · have e2 : (y.d : Int) < (x.d : Int) := by omega
      have e3 : ¬ x.d = y.d := by omega
      simp [e1, e2, h1, e3]
    · have e2 : ¬ (y.d : Int) < (x.d : Int) := by omega
      have e3 : x.d = y.d := by omega
      by_cases h3 : x.o < y.o
      · have e4 : (x.o : Int) < (y.o : Int) := by omega
        simp [e1, e2, h1, e3, e4, h3]
      · have e4 : ¬ (x.o : Int) < (y.o : Int) := by omega
        by_cases h4 : y.o < x.o
        · have e5 : (y.o : Int) < (x.o : Int) := by omega
          simp [e1, e2, h1, e3, e4, e5, h3]
        · have e5 : ¬ (y.o : Int) < (x.o : Int) := by omega
          simp [e1, e2, h1, e3, e4, e5, h3]
theorem swoH : SWO (ltOf cfH) where
  irrefl x := by rw [ltH]; exact decide_eq_false (ahead_irrefl x)
  trans x y z h1 h2 := by rw [ltH] at *; simp at *; exact ahead_trans h1 h2
  ntrans x y z h1 h2 := by rw [ltH] at *; simp only [decide_eq_false_iff_not] at *; unfold Go.Proofs.Ytnajombhlmbopaa.ahead at *; omega

end Go.Proofs.Ytnajombhlmbopaa
