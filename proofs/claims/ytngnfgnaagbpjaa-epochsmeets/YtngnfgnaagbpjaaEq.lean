/-
  '==' and '!=' between two starts.
-/
import Derived.Test.YtngnfgnaagbpjaaTab
import Derived.Laws.StructEq
namespace Go.Proofs.Ytngnfgnaagbpjaa
open Go.RowKit

theorem run_eql37 (e l x y : Nat) (w : World) : (binOp .eql 37 (.agg #[.int .u32 (e : Int), .int .u64 (l : Int)]) (.agg #[.int .u32 (x : Int), .int .u64 (y : Int)])).run Try.prog w = .ok (.bool (decide (e = x ∧ l = y))) w := by
  have u24 := Try.underlying24
  have a24 := Try.isAgg24
  have z24 := Try.sizeOf24
  have u23 := Try.underlying23
  have a23 := Try.isAgg23
  have z23 := Try.sizeOf23
  have hS : Try.prog.underlying 37 = some (.struct (Try.prog.fieldsOf 37)) := by kernel_rfl
  have hp : Try.prog.stoodInHeld 37 = false := by kernel_rfl
  rw [run_eql_struct, show (10000 : Nat) = 9999 + 1 from rfl, run_equalIn_agg w 9999 37 _ _ hS hp]
  simp only [Program.fieldsOf, Try.underlying37]
  go_simp
  by_cases h1 : e = x <;> by_cases h2 : l = y <;> simp [h1, h2] <;> omega
theorem run_neq37 (e l x y : Nat) (w : World) : (binOp .neq 37 (.agg #[.int .u32 (e : Int), .int .u64 (l : Int)]) (.agg #[.int .u32 (x : Int), .int .u64 (y : Int)])).run Try.prog w = .ok (.bool (!decide (e = x ∧ l = y))) w := by
  have u24 := Try.underlying24
  have a24 := Try.isAgg24
  have z24 := Try.sizeOf24
  have u23 := Try.underlying23
  have a23 := Try.isAgg23
  have z23 := Try.sizeOf23
  have hS : Try.prog.underlying 37 = some (.struct (Try.prog.fieldsOf 37)) := by kernel_rfl
  have hp : Try.prog.stoodInHeld 37 = false := by kernel_rfl
  rw [run_neq_struct, show (10000 : Nat) = 9999 + 1 from rfl, run_equalIn_agg w 9999 37 _ _ hS hp]
  simp only [Program.fieldsOf, Try.underlying37]
  go_simp
  by_cases h1 : e = x <;> by_cases h2 : l = y <;> simp [h1, h2] <;> omega
theorem guard37 (op : BinOp) (p q : Operand) (xs ys : Array Value) (w : World) : (eqGuard op 37 p q (.agg xs) (.agg ys)).run Try.prog w = .ok () w := run_eqGuard_agg w op 37 p q xs ys (by kernel_rfl)

end Go.Proofs.Ytngnfgnaagbpjaa
