/-
  What the two sorts compare by.
-/
import Derived.Test.YtlgdjmmhdfpfeaaLayS
import Derived.Test.YtlgdjmmhdfpfeaaSMath
import Derived.Lib.Bytealg
import Derived.Lib.Walk
namespace Go.Proofs.Ytlgdjmmhdfpfeaa
open Go.Proofs Go.Shelf Go.RowKit Go.Lib Go.Sort
set_option maxRecDepth 100000
set_option linter.unusedVariables false
set_option linter.unusedSimpArgs false

theorem cmpB_lt : ∀ a b : List UInt8, Lib.compareBytes a b < 0 ↔ a < b
  | [], [] => by simp [Lib.compareBytes]
  | [], _ :: _ => by simp [Lib.compareBytes]
  | _ :: _, [] => by simp [Lib.compareBytes]
  | a :: ra, b :: rb => by
    unfold Lib.compareBytes
    rw [List.cons_lt_cons_iff]
    by_cases h : a < b
    · simp [h]
    · rw [if_neg h]
      by_cases h2 : b < a
      · rw [if_pos h2]
        simp only [h, false_or]
        constructor
        · intro h3; omega
        · rintro ⟨rfl, _⟩; exact absurd h2 (UInt8.lt_irrefl _)
      · rw [if_neg h2, cmpB_lt ra rb]
        have : a = b := UInt8.le_antisymm (UInt8.not_lt.1 h2) (UInt8.not_lt.1 h)
        simp [h, this]

theorem cmp47 (a b : List UInt8) (w : World) :
    Calls Try.prog 47 #[encStr a, encStr b] w fun e w' => e = .returned (.int .i64 (Lib.compareBytes a b)) ∧ w = w' := by
  go_enter Try.func47, Try.ntmps47
  go_wp2
  rw [run_callFunc_extern Try.func60 (by kernel_rfl) (by kernel_rfl) (by kernel_rfl) (e := Extern.BytealgCompare.compare) (by kernel_rfl), Lib.run_compareString]
  simp only [Result.andThen]
  rw [Oper.upon_value]
  go_wp2
  go_ret
  exact ⟨rfl, rfl⟩
theorem cmp34 (a b : List UInt8) (w : World) :
    Calls Try.prog 34 #[encStr a, encStr b] w fun e w' => e = .returned (.int .i64 (Lib.compareBytes a b)) ∧ w = w' := by
  have C := cmp47 a b w
  generalize Lib.compareBytes a b = r at *
  go_enter Try.func34, Try.ntmps34
  go_wp2_with fail
  with_reducible refine C.mono ?_
  rintro e w' ⟨rfl, rfl⟩
  go_wp2
  go_ret
  exact ⟨rfl, rfl⟩
theorem cmp37 (x y : Int) (w : World) :
    Calls Try.prog 37 #[.int .u32 x, .int .u32 y] w fun e w' => e = .returned (.int .i64 (Lib.compareInt x y)) ∧ w = w' := by
  go_enter Try.func37, Try.ntmps37
  go_wp2
  all_goals (go_ret; refine ⟨?_, rfl⟩; unfold Lib.compareInt; (repeat' split) <;> first | rfl | (exfalso; omega))

def encG (x : Kd) : List Value := [encStr x.n, .int .i64 x.m, .int .i64 x.h]
def encH (h : Hd) : List Value := [.int .u32 (h.o : Int), encStr h.n, .int .i64 h.k, .int .i64 (h.t : Int)]
def cfG (x y : Kd) : Int := Lib.compareBytes x.n y.n
def cfH (x y : Hd) : Int := Lib.compareInt x.o y.o

theorem close33 (x y : Kd) (W : World) : Calls Try.prog 33 #[.agg #[encStr x.n, .int .i64 x.m, .int .i64 x.h], .agg #[encStr y.n, .int .i64 y.m, .int .i64 y.h]] W fun e w' => e = .returned (.int .i64 (cfG x y)) ∧ ∃ q os', w' = grow (W.drewN q) os' := by
  have C := fun W => cmp34 x.n y.n W
  unfold cfG
  generalize Lib.compareBytes x.n y.n = r at *
  go_enter Try.func33, Try.ntmps33
  go_wp2_with (go_at_call 34; refine (C _).mono ?_; rintro e w' ⟨rfl, rfl⟩)
  go_ret
  exact ⟨rfl, 0, _, by rw [alloc_eq_grow, alloc_eq_grow, grow_grow]; rfl⟩
theorem close36 (x y : Hd) (W : World) : Calls Try.prog 36 #[.agg #[.int .u32 (x.o : Int), encStr x.n, .int .i64 x.k, .int .i64 (x.t : Int)], .agg #[.int .u32 (y.o : Int), encStr y.n, .int .i64 y.k, .int .i64 (y.t : Int)]] W fun e w' => e = .returned (.int .i64 (cfH x y)) ∧ ∃ q os', w' = grow (W.drewN q) os' := by
  have C := fun W => cmp37 x.o y.o W
  unfold cfH
  generalize Lib.compareInt x.o y.o = r at *
  go_enter Try.func36, Try.ntmps36
  go_wp2_with (go_at_call 37; refine (C _).mono ?_; rintro e w' ⟨rfl, rfl⟩)
  go_ret
  exact ⟨rfl, 0, _, by rw [alloc_eq_grow, alloc_eq_grow, grow_grow]; rfl⟩

theorem ltG (x y : Kd) : ltOf cfG x y = decide (x.n < y.n) := by
  unfold ltOf cfG
  by_cases h : x.n < y.n
  · have := (cmpB_lt _ _).2 h; simp [h, this]
  · have : ¬ Lib.compareBytes x.n y.n < 0 := fun h' => h ((cmpB_lt x.n y.n).1 h'); simp only [h, this, decide_false]
theorem ltH (x y : Hd) : ltOf cfH x y = decide (x.o < y.o) := by
  unfold ltOf cfH Lib.compareInt
  by_cases h1 : x.o < y.o
  · simp [h1]
  · by_cases h2 : y.o < x.o <;> simp [h1, h2]
theorem swoG : SWO (ltOf cfG) where
  irrefl x := by rw [ltG]; exact decide_eq_false (nm_irrefl x.n)
  trans x y z h1 h2 := by rw [ltG] at *; simp at *; exact nm_trans h1 h2
  ntrans x y z h1 h2 := by
    rw [ltG] at *
    simp at *
    exact List.le_trans h2 h1
theorem swoH : SWO (ltOf cfH) where
  irrefl x := by rw [ltH]; simp
  trans x y z h1 h2 := by rw [ltH] at *; simp at *; omega
  ntrans x y z h1 h2 := by rw [ltH] at *; simp at *; omega

end Go.Proofs.Ytlgdjmmhdfpfeaa
