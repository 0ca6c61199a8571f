/-
  The contracts of isMode, isSite, isLength, Check and the document's Check.
-/
import Derived.Test.YtbcelelmckkaoaaBase
namespace Go.Proofs.Ytbcelelmckkaoaa
open Go.RowKit
set_option linter.unusedVariables false

theorem isMode_any (m : Int) (w : World) : Calls Try.prog 25 #[.int .i64 m] w fun x w' => x = .returned (.bool (decide (m = 1 ∨ m = 2))) ∧ w = w' := by
  by_cases h1 : m = 1
  · subst h1
    go_enter Try.func25, Try.ntmps25
    go_wp2
    go_ret
    exact ⟨rfl, rfl⟩
  · by_cases h2 : m = 2
    · subst h2
      go_enter Try.func25, Try.ntmps25
      go_wp2
      go_ret
      exact ⟨rfl, rfl⟩
    · go_enter Try.func25, Try.ntmps25
      go_wp2
      go_ret
      exact ⟨ret_bool (by simp [h1, h2]), rfl⟩
theorem isSite_any (m : Int) (w : World) : Calls Try.prog 26 #[.int .i64 m] w fun x w' => x = .returned (.bool (decide (m = 1 ∨ m = 2))) ∧ w = w' := by
  by_cases h1 : m = 1
  · subst h1
    go_enter Try.func26, Try.ntmps26
    go_wp2
    go_ret
    exact ⟨rfl, rfl⟩
  · by_cases h2 : m = 2
    · subst h2
      go_enter Try.func26, Try.ntmps26
      go_wp2
      go_ret
      exact ⟨rfl, rfl⟩
    · go_enter Try.func26, Try.ntmps26
      go_wp2
      go_ret
      exact ⟨ret_bool (by simp [h1, h2]), rfl⟩
theorem isLength_any (n : Nat) (w : World) : Calls Try.prog 27 #[.int .u64 (n : Int)] w fun x w' => x = .returned (.bool (decide (1 ≤ n ∧ n ≤ 10000))) ∧ w = w' := by
  by_cases h1 : 1 ≤ n
  · by_cases h2 : n ≤ 10000
    · go_enter Try.func27, Try.ntmps27
      go_wp2
      go_ret
      exact ⟨ret_bool (by simp [h1, h2] <;> omega), rfl⟩
    · go_enter Try.func27, Try.ntmps27
      go_wp2
      go_ret
      exact ⟨ret_bool (by simp [h1, h2] <;> omega), rfl⟩
  · go_enter Try.func27, Try.ntmps27
    go_wp2
    go_ret
    exact ⟨ret_bool (by simp <;> omega), rfl⟩

set_option maxRecDepth 100000 in
theorem check_any (e : Nat) (h : Int) (u : Nat) (m : Int) (w : World) : Calls Try.prog 10 #[.agg #[.int .u32 (e : Int), .int .i64 h, .int .u64 (u : Int), .int .i64 m]] w fun x w' => x = .returned (.int .i64 (chkS e h u m)) ∧ Below w.heap.size w w' := by
  have M := fun W => Lib.hid (isMode_any m W)
  have S := fun W => Lib.hid (isSite_any h W)
  have HB := Lib.hid (below1 w (.cells #[.int .u32 (e : Int), .int .i64 h, .int .u64 (u : Int), .int .i64 m] 25))
  by_cases hm : m = 1 ∨ m = 2
  · rw [show decide (m = 1 ∨ m = 2) = true from decide_eq_true hm] at M
    by_cases hu : u ≤ 4611686018427397904
    · by_cases hh : h = 0
      · subst hh
        by_cases he : e = 0
        · subst he
          by_cases hu0 : u = 0
          · subst hu0
            have R : chkS 0 0 0 m = 0 := if_pos ⟨hm, hu, .inl ⟨rfl, rfl, rfl⟩⟩
            rw [R]; clear R hm
            go_enter Try.func10, Try.ntmps10
            go_wp2_with fail
            with_reducible refine (M _).out.mono ?_
            rintro x w' ⟨rfl, rfl⟩
            go_wp2
            go_ret
            exact ⟨rfl, HB.out⟩
          · have R : chkS 0 0 u m = 2 := if_neg (by unfold vB; omega)
            rw [R]; clear R hm
            go_enter Try.func10, Try.ntmps10
            go_wp2_with fail
            with_reducible refine (M _).out.mono ?_
            rintro x w' ⟨rfl, rfl⟩
            go_wp2
            go_ret
            exact ⟨rfl, HB.out⟩
        · have R : chkS e 0 u m = 2 := if_neg (by unfold vB; omega)
          rw [R]; clear R hm
          go_enter Try.func10, Try.ntmps10
          go_wp2_with fail
          with_reducible refine (M _).out.mono ?_
          rintro x w' ⟨rfl, rfl⟩
          go_wp2
          go_ret
          exact ⟨rfl, HB.out⟩
      · by_cases hs : h = 1 ∨ h = 2
        · rw [show decide (h = 1 ∨ h = 2) = true from decide_eq_true hs] at S
          by_cases he : e = 0
          · subst he
            have R : chkS 0 h u m = 2 := if_neg (by unfold vB; omega)
            rw [R]; clear R hm hs
            go_enter Try.func10, Try.ntmps10
            go_wp2_with fail
            with_reducible refine (M _).out.mono ?_
            rintro x w' ⟨rfl, rfl⟩
            go_wp2_with fail
            with_reducible refine (S _).out.mono ?_
            rintro x w' ⟨rfl, rfl⟩
            go_wp2
            go_ret
            exact ⟨rfl, HB.out⟩
          · have R : chkS e h u m = 0 := if_pos ⟨hm, hu, .inr ⟨hs, he⟩⟩
            have d1 : (h == 0) = false := by simpa using hh
            have d2 : (h != 0) = true := by simpa using hh
            have d3 : ((e : Int) == 0) = false := by simpa using he
            rw [R]; clear R hm hs
            go_enter Try.func10, Try.ntmps10
            go_wp2_with fail
            with_reducible refine (M _).out.mono ?_
            rintro x w' ⟨rfl, rfl⟩
            go_wp2_with fail
            with_reducible refine (S _).out.mono ?_
            rintro x w' ⟨rfl, rfl⟩
            go_wp2
            go_ret
            exact ⟨rfl, HB.out⟩
        · rw [show decide (h = 1 ∨ h = 2) = false from decide_eq_false hs] at S
          have R : chkS e h u m = 2 := if_neg (by unfold vB; omega)
          rw [R]; clear R hm hs
          go_enter Try.func10, Try.ntmps10
          go_wp2_with fail
          with_reducible refine (M _).out.mono ?_
          rintro x w' ⟨rfl, rfl⟩
          go_wp2_with fail
          with_reducible refine (S _).out.mono ?_
          rintro x w' ⟨rfl, rfl⟩
          go_wp2
          go_ret
          exact ⟨rfl, HB.out⟩
    · have R : chkS e h u m = 2 := if_neg (by unfold vB; omega)
      rw [R]; clear R hm
      go_enter Try.func10, Try.ntmps10
      go_wp2_with fail
      with_reducible refine (M _).out.mono ?_
      rintro x w' ⟨rfl, rfl⟩
      go_wp2
      go_ret
      exact ⟨rfl, HB.out⟩
  · rw [show decide (m = 1 ∨ m = 2) = false from decide_eq_false hm] at M
    have R : chkS e h u m = 2 := if_neg (by unfold vB; omega)
    rw [R]; clear R hm
    go_enter Try.func10, Try.ntmps10
    go_wp2_with fail
    with_reducible refine (M _).out.mono ?_
    rintro x w' ⟨rfl, rfl⟩
    go_wp2
    go_ret
    exact ⟨rfl, HB.out⟩

end Go.Proofs.Ytbcelelmckkaoaa
