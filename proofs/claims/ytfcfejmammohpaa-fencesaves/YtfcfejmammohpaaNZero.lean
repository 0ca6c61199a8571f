/-
  The contracts of isZero, inBounds, lacksKey: for every note.
-/
import Derived.Test.YtfcfejmammohpaaNIter
namespace Go.Proofs.Ytfcfejmammohpaa
open Go.RowKit
set_option maxRecDepth 100000
set_option linter.unusedSimpArgs false

def BoolPost (b : Bool) (w : World) (x : Ending) (w' : World) : Prop := x = .returned (.bool b) ∧ Below w.heap.size w w'

set_option maxHeartbeats 400000 in
theorem isZero_69 (e : Note) (A1 A2 : Option Addr) (c1 c2 : Nat) (w : World) :
    Calls Try.prog 99 #[.agg (evs e (.slice A1 e.key.length c1) (.slice A2 e.data.length c2)), .int .i32 69] w (BoolPost (Ent.isZ 69 e) w) := by
  have b1 := fun o => below1 w o
  unfold BoolPost
  rw [show Ent.isZ 69 e = decide (e.epoch = 0) from rfl]
  generalize e.key.length = n1
  generalize e.data.length = n2
  go_enter Try.func99, Try.ntmps99
  go_wp2
  go_ret
  refine ⟨ret_bool ?_, b1 _⟩
  first | rfl | (rw [Bool.eq_iff_iff]; simp; done) | (rw [Bool.eq_iff_iff]; simp; omega)

set_option maxHeartbeats 400000 in
theorem isZero_80 (e : Note) (A1 A2 : Option Addr) (c1 c2 : Nat) (w : World) :
    Calls Try.prog 99 #[.agg (evs e (.slice A1 e.key.length c1) (.slice A2 e.data.length c2)), .int .i32 80] w (BoolPost (Ent.isZ 80 e) w) := by
  have b1 := fun o => below1 w o
  unfold BoolPost
  rw [show Ent.isZ 80 e = decide (e.old = 0) from rfl]
  generalize e.key.length = n1
  generalize e.data.length = n2
  go_enter Try.func99, Try.ntmps99
  go_wp2
  go_ret
  refine ⟨ret_bool ?_, b1 _⟩
  first | rfl | (rw [Bool.eq_iff_iff]; simp; done) | (rw [Bool.eq_iff_iff]; simp; omega)

set_option maxHeartbeats 400000 in
theorem isZero_76 (e : Note) (A1 A2 : Option Addr) (c1 c2 : Nat) (w : World) :
    Calls Try.prog 99 #[.agg (evs e (.slice A1 e.key.length c1) (.slice A2 e.data.length c2)), .int .i32 76] w (BoolPost (Ent.isZ 76 e) w) := by
  have b1 := fun o => below1 w o
  unfold BoolPost
  rw [show Ent.isZ 76 e = decide (e.lsn = 0) from rfl]
  generalize e.key.length = n1
  generalize e.data.length = n2
  go_enter Try.func99, Try.ntmps99
  go_wp2
  go_ret
  refine ⟨ret_bool ?_, b1 _⟩
  first | rfl | (rw [Bool.eq_iff_iff]; simp; done) | (rw [Bool.eq_iff_iff]; simp; omega)

set_option maxHeartbeats 400000 in
theorem isZero_84 (e : Note) (A1 A2 : Option Addr) (c1 c2 : Nat) (w : World) :
    Calls Try.prog 99 #[.agg (evs e (.slice A1 e.key.length c1) (.slice A2 e.data.length c2)), .int .i32 84] w (BoolPost (Ent.isZ 84 e) w) := by
  have b1 := fun o => below1 w o
  unfold BoolPost
  rw [show Ent.isZ 84 e = decide (e.tick = 0) from rfl]
  generalize e.key.length = n1
  generalize e.data.length = n2
  go_enter Try.func99, Try.ntmps99
  go_wp2
  go_ret
  refine ⟨ret_bool ?_, b1 _⟩
  first | rfl | (rw [Bool.eq_iff_iff]; simp; done) | (rw [Bool.eq_iff_iff]; simp; omega)

set_option maxHeartbeats 400000 in
theorem isZero_79 (e : Note) (A1 A2 : Option Addr) (c1 c2 : Nat) (w : World) :
    Calls Try.prog 99 #[.agg (evs e (.slice A1 e.key.length c1) (.slice A2 e.data.length c2)), .int .i32 79] w (BoolPost (Ent.isZ 79 e) w) := by
  have b1 := fun o => below1 w o
  unfold BoolPost
  rw [show Ent.isZ 79 e = decide (e.order = 0) from rfl]
  generalize e.key.length = n1
  generalize e.data.length = n2
  go_enter Try.func99, Try.ntmps99
  go_wp2
  go_ret
  refine ⟨ret_bool ?_, b1 _⟩
  first | rfl | (rw [Bool.eq_iff_iff]; simp; done) | (rw [Bool.eq_iff_iff]; simp; omega)

set_option maxHeartbeats 400000 in
theorem isZero_83 (e : Note) (A1 A2 : Option Addr) (c1 c2 : Nat) (w : World) :
    Calls Try.prog 99 #[.agg (evs e (.slice A1 e.key.length c1) (.slice A2 e.data.length c2)), .int .i32 83] w (BoolPost (Ent.isZ 83 e) w) := by
  have b1 := fun o => below1 w o
  unfold BoolPost
  rw [show Ent.isZ 83 e = decide (e.step = 0) from rfl]
  generalize e.key.length = n1
  generalize e.data.length = n2
  go_enter Try.func99, Try.ntmps99
  go_wp2
  go_ret
  refine ⟨ret_bool ?_, b1 _⟩
  first | rfl | (rw [Bool.eq_iff_iff]; simp; done) | (rw [Bool.eq_iff_iff]; simp; omega)

set_option maxHeartbeats 400000 in
theorem isZero_85 (e : Note) (A1 A2 : Option Addr) (c1 c2 : Nat) (w : World) :
    Calls Try.prog 99 #[.agg (evs e (.slice A1 e.key.length c1) (.slice A2 e.data.length c2)), .int .i32 85] w (BoolPost (Ent.isZ 85 e) w) := by
  have b1 := fun o => below1 w o
  unfold BoolPost
  rw [show Ent.isZ 85 e = !e.undo from rfl]
  generalize e.key.length = n1
  generalize e.data.length = n2
  go_enter Try.func99, Try.ntmps99
  go_wp2
  go_ret
  refine ⟨ret_bool ?_, b1 _⟩
  rfl

set_option maxHeartbeats 400000 in
theorem isZero_67 (e : Note) (A1 A2 : Option Addr) (c1 c2 : Nat) (w : World) :
    Calls Try.prog 99 #[.agg (evs e (.slice A1 e.key.length c1) (.slice A2 e.data.length c2)), .int .i32 67] w (BoolPost (Ent.isZ 67 e) w) := by
  have b1 := fun o => below1 w o
  unfold BoolPost
  rw [show Ent.isZ 67 e = decide (e.code = 0) from rfl]
  generalize e.key.length = n1
  generalize e.data.length = n2
  go_enter Try.func99, Try.ntmps99
  go_wp2
  go_ret
  refine ⟨ret_bool ?_, b1 _⟩
  first | rfl | (rw [Bool.eq_iff_iff]; simp; done) | (rw [Bool.eq_iff_iff]; simp; omega)

set_option maxHeartbeats 400000 in
theorem isZero_75 (e : Note) (A1 A2 : Option Addr) (c1 c2 : Nat) (w : World) :
    Calls Try.prog 99 #[.agg (evs e (.slice A1 e.key.length c1) (.slice A2 e.data.length c2)), .int .i32 75] w (BoolPost (Ent.isZ 75 e) w) := by
  have b1 := fun o => below1 w o
  unfold BoolPost
  rw [show Ent.isZ 75 e = decide (e.key.length = 0) from rfl]
  generalize e.key.length = n1
  generalize e.data.length = n2
  go_enter Try.func99, Try.ntmps99
  go_wp2
  go_ret
  refine ⟨ret_bool ?_, b1 _⟩
  first | rfl | (rw [Bool.eq_iff_iff]; simp; done) | (rw [Bool.eq_iff_iff]; simp; omega)

set_option maxHeartbeats 400000 in
theorem isZero_68 (e : Note) (A1 A2 : Option Addr) (c1 c2 : Nat) (w : World) :
    Calls Try.prog 99 #[.agg (evs e (.slice A1 e.key.length c1) (.slice A2 e.data.length c2)), .int .i32 68] w (BoolPost (Ent.isZ 68 e) w) := by
  have b1 := fun o => below1 w o
  unfold BoolPost
  rw [show Ent.isZ 68 e = decide (e.data.length = 0) from rfl]
  generalize e.key.length = n1
  generalize e.data.length = n2
  go_enter Try.func99, Try.ntmps99
  go_wp2
  go_ret
  refine ⟨ret_bool ?_, b1 _⟩
  first | rfl | (rw [Bool.eq_iff_iff]; simp; done) | (rw [Bool.eq_iff_iff]; simp; omega)

theorem isZero_any (e : Note) (A1 A2 : Option Addr) (c1 c2 : Nat) (c : Nat) (hc : c ∈ Ent.alpha) (w : World) :
    Calls Try.prog 99 #[.agg (evs e (.slice A1 e.key.length c1) (.slice A2 e.data.length c2)), .int .i32 (c : Nat)] w (BoolPost (Ent.isZ c e) w) := by
  rcases Ent.alpha_cases hc with rfl | rfl | rfl | rfl | rfl | rfl | rfl | rfl | rfl | rfl
  · exact isZero_69 e A1 A2 c1 c2 w
  · exact isZero_80 e A1 A2 c1 c2 w
  · exact isZero_76 e A1 A2 c1 c2 w
  · exact isZero_84 e A1 A2 c1 c2 w
  · exact isZero_79 e A1 A2 c1 c2 w
  · exact isZero_83 e A1 A2 c1 c2 w
  · exact isZero_85 e A1 A2 c1 c2 w
  · exact isZero_67 e A1 A2 c1 c2 w
  · exact isZero_75 e A1 A2 c1 c2 w
  · exact isZero_68 e A1 A2 c1 c2 w

set_option maxHeartbeats 400000 in
theorem inBounds_any (e : Note) (A1 A2 : Option Addr) (c1 c2 : Nat) (w : World) :
    Calls Try.prog 90 #[.agg (evs e (.slice A1 e.key.length c1) (.slice A2 e.data.length c2))] w (BoolPost (Ent.inB e) w) := by
  have b1 := fun o => below1 w o
  unfold BoolPost Ent.inB evs
  generalize e.key.length = n1
  generalize e.data.length = n2
  generalize e.step = st
  generalize e.code = cd
  by_cases h1 : 0 ≤ st
  · by_cases h2 : st < 16
    · by_cases h3 : 0 ≤ cd
      · by_cases h4 : cd ≤ 255
        · by_cases h5 : n1 ≤ 32
          · go_enter Try.func90, Try.ntmps90
            go_wp2
            go_ret
            exact ⟨ret_bool (by first | rfl | (rw [Bool.eq_iff_iff]; done) | (rw [Bool.eq_iff_iff]; simp; done) | (rw [Bool.eq_iff_iff]; simp; omega)), b1 _⟩
          · go_enter Try.func90, Try.ntmps90
            go_wp2
            go_ret
            exact ⟨ret_bool (by first | rfl | (rw [Bool.eq_iff_iff]; done) | (rw [Bool.eq_iff_iff]; simp; done) | (rw [Bool.eq_iff_iff]; simp; omega)), b1 _⟩
        · go_enter Try.func90, Try.ntmps90
          go_wp2
          go_ret
          exact ⟨ret_bool (by first | rfl | (rw [Bool.eq_iff_iff]; done) | (rw [Bool.eq_iff_iff]; simp; done) | (rw [Bool.eq_iff_iff]; simp; omega)), b1 _⟩
      · go_enter Try.func90, Try.ntmps90
        go_wp2
        go_ret
        exact ⟨ret_bool (by first | rfl | (rw [Bool.eq_iff_iff]; done) | (rw [Bool.eq_iff_iff]; simp; done) | (rw [Bool.eq_iff_iff]; simp; omega)), b1 _⟩
    · go_enter Try.func90, Try.ntmps90
      go_wp2
      go_ret
      exact ⟨ret_bool (by first | rfl | (rw [Bool.eq_iff_iff]; done) | (rw [Bool.eq_iff_iff]; simp; done) | (rw [Bool.eq_iff_iff]; simp; omega)), b1 _⟩
  · go_enter Try.func90, Try.ntmps90
    go_wp2
    go_ret
    exact ⟨ret_bool (by first | rfl | (rw [Bool.eq_iff_iff]; done) | (rw [Bool.eq_iff_iff]; simp; done) | (rw [Bool.eq_iff_iff]; simp; omega)), b1 _⟩

set_option maxHeartbeats 400000 in
theorem lacksKey_any (e : Note) (A1 A2 : Option Addr) (c1 c2 : Nat) (w : World) :
    Calls Try.prog 91 #[.agg (evs e (.slice A1 e.key.length c1) (.slice A2 e.data.length c2))] w (BoolPost (Ent.lackK e) w) := by
  have b1 := fun o => below1 w o
  unfold BoolPost Ent.lackK evs
  generalize e.key.length = n1
  generalize e.data.length = n2
  generalize e.kind = k
  by_cases h1 : k = 10
  · subst h1
    go_enter Try.func91, Try.ntmps91
    go_wp2
    go_ret
    exact ⟨ret_bool (by first | rfl | (rw [Bool.eq_iff_iff]; done) | (rw [Bool.eq_iff_iff]; simp; done) | (rw [Bool.eq_iff_iff]; simp; omega)), b1 _⟩
  · by_cases h2 : k = 11
    · subst h2
      go_enter Try.func91, Try.ntmps91
      go_wp2
      go_ret
      exact ⟨ret_bool (by first | rfl | (rw [Bool.eq_iff_iff]; done) | (rw [Bool.eq_iff_iff]; simp; done) | (rw [Bool.eq_iff_iff]; simp; omega)), b1 _⟩
    · by_cases h3 : k = 12
      · subst h3
        go_enter Try.func91, Try.ntmps91
        go_wp2
        go_ret
        exact ⟨ret_bool (by first | rfl | (rw [Bool.eq_iff_iff]; done) | (rw [Bool.eq_iff_iff]; simp; done) | (rw [Bool.eq_iff_iff]; simp; omega)), b1 _⟩
      · have g1 : (k == 10) = false := by rw [beq_eq_false_iff_ne]; omega
        have g2 : (k == 11) = false := by rw [beq_eq_false_iff_ne]; omega
        have g3 : (k == 12) = false := by rw [beq_eq_false_iff_ne]; omega
        go_enter Try.func91, Try.ntmps91
        go_wp2
        go_ret
        exact ⟨ret_bool (by first | rfl | (rw [Bool.eq_iff_iff]; done) | (rw [Bool.eq_iff_iff]; simp; done) | (rw [Bool.eq_iff_iff]; simp; omega)), b1 _⟩

end Go.Proofs.Ytfcfejmammohpaa
