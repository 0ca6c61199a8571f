/-
  The contracts of cmp.Compare, compareLsn and compareEpoch.
-/
import Derived.Test.YtngnfgnaagbpjaaTab
namespace Go.Proofs.Ytngnfgnaagbpjaa
open Go.RowKit

def cmpN (x y : Nat) : Int := if x < y then -1 else if y < x then 1 else 0

theorem nan64 (x : Nat) (w : World) : Calls Try.prog 38 #[.int .u64 (x : Int)] w fun e w' => e = .returned (.bool false) ∧ w = w' := by
  go_enter Try.func38, Try.ntmps38
  go_wp2
  go_ret
  exact ⟨ret_bool (by simp), rfl⟩
theorem nan32 (x : Nat) (w : World) : Calls Try.prog 39 #[.int .u32 (x : Int)] w fun e w' => e = .returned (.bool false) ∧ w = w' := by
  go_enter Try.func39, Try.ntmps39
  go_wp2
  go_ret
  exact ⟨ret_bool (by simp), rfl⟩

theorem compare64 (x y : Nat) (w : World) : Calls Try.prog 36 #[.int .u64 (x : Int), .int .u64 (y : Int)] w fun e w' => e = .returned (.int .i64 (cmpN x y)) ∧ w = w' := by
  unfold cmpN
  by_cases h1 : x < y
  · rw [if_pos h1]
    go_enter Try.func36, Try.ntmps36
    go_wp2_with (go_at_call 38; refine (nan64 _ _).mono ?_; rintro e w' ⟨rfl, rfl⟩)
    go_ret
    exact ⟨rfl, rfl⟩
  · rw [if_neg h1]
    by_cases h2 : y < x
    · rw [if_pos h2]
      go_enter Try.func36, Try.ntmps36
      go_wp2_with (go_at_call 38; refine (nan64 _ _).mono ?_; rintro e w' ⟨rfl, rfl⟩)
      go_ret
      exact ⟨rfl, rfl⟩
    · rw [if_neg h2]
      go_enter Try.func36, Try.ntmps36
      go_wp2_with (go_at_call 38; refine (nan64 _ _).mono ?_; rintro e w' ⟨rfl, rfl⟩)
      go_ret
      exact ⟨rfl, rfl⟩
theorem compare32 (x y : Nat) (w : World) : Calls Try.prog 37 #[.int .u32 (x : Int), .int .u32 (y : Int)] w fun e w' => e = .returned (.int .i64 (cmpN x y)) ∧ w = w' := by
  unfold cmpN
  by_cases h1 : x < y
  · rw [if_pos h1]
    go_enter Try.func37, Try.ntmps37
    go_wp2_with (go_at_call 39; refine (nan32 _ _).mono ?_; rintro e w' ⟨rfl, rfl⟩)
    go_ret
    exact ⟨rfl, rfl⟩
  · rw [if_neg h1]
    by_cases h2 : y < x
    · rw [if_pos h2]
      go_enter Try.func37, Try.ntmps37
      go_wp2_with (go_at_call 39; refine (nan32 _ _).mono ?_; rintro e w' ⟨rfl, rfl⟩)
      go_ret
      exact ⟨rfl, rfl⟩
    · rw [if_neg h2]
      go_enter Try.func37, Try.ntmps37
      go_wp2_with (go_at_call 39; refine (nan32 _ _).mono ?_; rintro e w' ⟨rfl, rfl⟩)
      go_ret
      exact ⟨rfl, rfl⟩

theorem compareLsn_any (e l y : Nat) (w : World) : Calls Try.prog 33 #[.agg #[.int .u32 (e : Int), .int .u64 (l : Int)], .int .u64 (y : Int)] w fun x w' => x = .returned (.int .i64 (cmpN l y)) ∧ Below w.heap.size w w' := by
  have C := fun W => Lib.hid (compare64 l y W)
  generalize cmpN l y = c at *
  have hb := below1 w (.cells #[.int .u32 (e : Int), .int .u64 (l : Int)] 37)
  have HB := Lib.hid hb
  clear hb
  go_enter Try.func33, Try.ntmps33
  go_wp2_with fail
  with_reducible refine (C _).out.mono ?_
  rintro x w' ⟨rfl, rfl⟩
  go_wp2
  go_ret
  exact ⟨rfl, HB.out⟩
theorem compareEpoch_any (e l y : Nat) (w : World) : Calls Try.prog 35 #[.agg #[.int .u32 (e : Int), .int .u64 (l : Int)], .int .u32 (y : Int)] w fun x w' => x = .returned (.int .i64 (cmpN e y)) ∧ Below w.heap.size w w' := by
  have C := fun W => Lib.hid (compare32 e y W)
  generalize cmpN e y = c at *
  have hb := below1 w (.cells #[.int .u32 (e : Int), .int .u64 (l : Int)] 37)
  have HB := Lib.hid hb
  clear hb
  go_enter Try.func35, Try.ntmps35
  go_wp2_with fail
  with_reducible refine (C _).out.mono ?_
  rintro x w' ⟨rfl, rfl⟩
  go_wp2
  go_ret
  exact ⟨rfl, HB.out⟩

end Go.Proofs.Ytngnfgnaagbpjaa
