/-
  The contracts of Free, Ship, Gone, and of all methods of a stock that is not there.
-/
import Derived.Test.YtimoobhnhldgbaaEndS
import Derived.Test.YtimoobhnhldgbaaHold
namespace Go.Proofs.Ytimoobhnhldgbaa
open Go.RowKit
set_option maxRecDepth 100000
set_option linter.unusedVariables false
set_option linter.unusedSimpArgs false

theorem free_any (b : SB) (q : Ss) (o : Nat) (w : World) (hA : At w b q) (hI : Inv q) (ho : o < 4294967296) :
    Calls Try.prog 24 #[.pointer (some ⟨b.s, 0, none⟩), .int .u32 (o : Int)] w (EndPost w b q o false) := by
  have C := Lib.hid (free_end b q o w hA hI ho)
  clear hA hI
  go_enter Try.func24, Try.ntmps24
  go_wp2_with fail
  with_reducible refine C.out.mono ?_
  rintro e w' ⟨rfl, h⟩
  have HH := Lib.hid h
  clear h
  go_wp2
  go_ret
  exact ⟨rfl, HH.out⟩
theorem ship_any (b : SB) (q : Ss) (o : Nat) (w : World) (hA : At w b q) (hI : Inv q) (ho : o < 4294967296) :
    Calls Try.prog 25 #[.pointer (some ⟨b.s, 0, none⟩), .int .u32 (o : Int)] w (EndPost w b q o true) := by
  have C := Lib.hid (ship_end b q o w hA hI ho)
  clear hA hI
  go_enter Try.func25, Try.ntmps25
  go_wp2_with fail
  with_reducible refine C.out.mono ?_
  rintro e w' ⟨rfl, h⟩
  have HH := Lib.hid h
  clear h
  go_wp2
  go_ret
  exact ⟨rfl, HH.out⟩

/-- How many of a kind are gone. -/
def goneN (K : List Kd) (x : List UInt8) : Int := ((findK K x).getD zK).g
theorem run_field (k : Kd) (w : World) : Sem.run Try.prog (Instr.field 60 (vK k) 1) w = .ok (.agg #[.int .i64 k.f, .int .i64 k.g]) w := by
  have h : (Instr.field 60 (vK k) 1).run Try.prog w = .ok (.agg #[.int .i64 k.f, .int .i64 k.g]) w := by kernel_rfl
  exact h
theorem run_index (f g : Int) (w : World) : Sem.run Try.prog (Instr.index 58 (.agg #[.int .i64 f, .int .i64 g]) (.int .i64 1)) w = .ok (.int .i64 g) w := by
  have h : (Instr.index 58 (.agg #[.int .i64 f, .int .i64 g]) (.int .i64 1)).run Try.prog w = .ok (.int .i64 g) w := by kernel_rfl
  exact h
theorem gone_any (b : SB) (q : Ss) (x : List UInt8) (w : World) (hA : At w b q) (hx : x.length ≤ maxLen) :
    Calls Try.prog 22 #[.pointer (some ⟨b.s, 0, none⟩), encStr x] w fun e w' => e = .returned (.int .i64 (goneN q.K x)) ∧ w = w' := by
  have r1 := hA.ok.look x hx
  obtain ⟨c0, c1⟩ := hA.c.cells2
  unfold goneN
  generalize (findK q.K x).getD zK = k at *
  clear hA
  have q1 := run_field k w
  have q2 := run_index k.f k.g w
  go_enter Try.func22, Try.ntmps22
  go_wp2
  go_ret
  exact ⟨rfl, rfl⟩

/-! ### a stock that is not there -/
theorem hold_nil (o x n : Value) (w : World) : Calls Try.prog 26 #[.pointer none, o, x, n] w fun e w' => e = .returned (.int .i64 2) ∧ w = w' := by
  go_enter Try.func26, Try.ntmps26
  go_wp2
  go_ret
  exact ⟨rfl, rfl⟩
theorem end_nil (o s : Value) (w : World) : Calls Try.prog 37 #[.pointer none, o, s] w fun e w' => e = .returned (.int .i64 2) ∧ w = w' := by
  go_enter Try.func37, Try.ntmps37
  go_wp2
  go_ret
  exact ⟨rfl, rfl⟩
theorem free_nil (o : Value) (w : World) : Calls Try.prog 24 #[.pointer none, o] w fun e w' => e = .returned (.int .i64 2) ∧ w = w' := by
  have C := end_nil o (.int .i64 0) w
  go_enter Try.func24, Try.ntmps24
  go_wp2_with fail
  with_reducible refine C.mono ?_
  rintro e w' ⟨rfl, rfl⟩
  go_wp2
  go_ret
  exact ⟨rfl, rfl⟩
theorem ship_nil (o : Value) (w : World) : Calls Try.prog 25 #[.pointer none, o] w fun e w' => e = .returned (.int .i64 2) ∧ w = w' := by
  have C := end_nil o (.int .i64 1) w
  go_enter Try.func25, Try.ntmps25
  go_wp2_with fail
  with_reducible refine C.mono ?_
  rintro e w' ⟨rfl, rfl⟩
  go_wp2
  go_ret
  exact ⟨rfl, rfl⟩
theorem goods_nil (w : World) : Calls Try.prog 16 #[.pointer none] w fun e w' => e = .returned (.slice none 0 0) ∧ w = w' := by
  go_enter Try.func16, Try.ntmps16
  go_wp2
  go_ret
  exact ⟨rfl, rfl⟩
theorem holds_nil (w : World) : Calls Try.prog 17 #[.pointer none] w fun e w' => e = .returned (.slice none 0 0) ∧ w = w' := by
  go_enter Try.func17, Try.ntmps17
  go_wp2
  go_ret
  exact ⟨rfl, rfl⟩
theorem gone_nil (x : Value) (w : World) : Calls Try.prog 22 #[.pointer none, x] w fun e w' => e = .returned (.int .i64 0) ∧ w = w' := by
  go_enter Try.func22, Try.ntmps22
  go_wp2
  go_ret
  exact ⟨rfl, rfl⟩

end Go.Proofs.Ytimoobhnhldgbaa
