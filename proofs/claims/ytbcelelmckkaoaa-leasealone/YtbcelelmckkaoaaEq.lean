/-
  '==' and '!=' between two leases; the contract of empty.
-/
import Derived.Test.YtbcelelmckkaoaaRet
import Derived.Laws.StructEq
namespace Go.Proofs.Ytbcelelmckkaoaa
open Go.RowKit

theorem run_eql25 (e x : Nat) (h y : Int) (u z : Nat) (m v : Int) (w : World) : (binOp .eql 25 (.agg #[.int .u32 (e : Int), .int .i64 h, .int .u64 (u : Int), .int .i64 m]) (.agg #[.int .u32 (x : Int), .int .i64 y, .int .u64 (z : Int), .int .i64 v])).run Try.prog w = .ok (.bool (decide (e = x ∧ h = y ∧ u = z ∧ m = v))) w := by
  have u22 := Try.underlying22
  have a22 := Try.isAgg22
  have z22 := Try.sizeOf22
  have u23 := Try.underlying23
  have a23 := Try.isAgg23
  have z23 := Try.sizeOf23
  have u3 := Try.underlying3
  have a3 := Try.isAgg3
  have z3 := Try.sizeOf3
  have hS : Try.prog.underlying 25 = some (.struct (Try.prog.fieldsOf 25)) := by kernel_rfl
  have hp : Try.prog.stoodInHeld 25 = false := by kernel_rfl
  rw [run_eql_struct, show (10000 : Nat) = 9999 + 1 from rfl, run_equalIn_agg w 9999 25 _ _ hS hp]
  simp only [Program.fieldsOf, Try.underlying25]
  go_simp
  by_cases h1 : e = x <;> by_cases h2 : h = y <;> by_cases h3 : u = z <;> by_cases h4 : m = v <;> simp [h1, h2, h3, h4] <;> omega
theorem run_neq25 (e x : Nat) (h y : Int) (u z : Nat) (m v : Int) (w : World) : (binOp .neq 25 (.agg #[.int .u32 (e : Int), .int .i64 h, .int .u64 (u : Int), .int .i64 m]) (.agg #[.int .u32 (x : Int), .int .i64 y, .int .u64 (z : Int), .int .i64 v])).run Try.prog w = .ok (.bool (!decide (e = x ∧ h = y ∧ u = z ∧ m = v))) w := by
  have u22 := Try.underlying22
  have a22 := Try.isAgg22
  have z22 := Try.sizeOf22
  have u23 := Try.underlying23
  have a23 := Try.isAgg23
  have z23 := Try.sizeOf23
  have u3 := Try.underlying3
  have a3 := Try.isAgg3
  have z3 := Try.sizeOf3
  have hS : Try.prog.underlying 25 = some (.struct (Try.prog.fieldsOf 25)) := by kernel_rfl
  have hp : Try.prog.stoodInHeld 25 = false := by kernel_rfl
  rw [run_neq_struct, show (10000 : Nat) = 9999 + 1 from rfl, run_equalIn_agg w 9999 25 _ _ hS hp]
  simp only [Program.fieldsOf, Try.underlying25]
  go_simp
  by_cases h1 : e = x <;> by_cases h2 : h = y <;> by_cases h3 : u = z <;> by_cases h4 : m = v <;> simp [h1, h2, h3, h4] <;> omega
theorem guard25 (op : BinOp) (p q : Operand) (xs ys : Array Value) (w : World) : (eqGuard op 25 p q (.agg xs) (.agg ys)).run Try.prog w = .ok () w := run_eqGuard_agg w op 25 p q xs ys (by kernel_rfl)

set_option maxRecDepth 100000 in
theorem ret_L1 {fn : Func} {R : Ending → World → Prop} {a : Act} {w : World} {p : Tmp} (g : Nat) (t : TypeId) (cs : Array Value) (h : fn.results = #[.cell p 25]) (hp : a.tmps.getD p undef = .pointer (some ⟨g, 0, none⟩)) (hg : Lies w g t cs) (hs : cs.size = 4) (hd : a.defers = [])
    (hR : R (.returned (.agg cs)) w) : bodyPost Try.prog fn R .ret a w :=
  bodyPost_ret (results_cell_row h _ _ g t cs (0, 0) _ hp hg Try.underlying25 rfl (by rw [hs]; kernel_rfl)) hd hR
theorem empty_any (w : World) : Calls Try.prog 23 #[] w fun x w' => x = .returned (.agg #[.int .u32 0, .int .i64 0, .int .u64 0, .int .i64 1]) ∧ Below w.heap.size w w' := by
  go_enter Try.func23, Try.ntmps23
  go_wp2
  exact ret_L1 w.heap.size 25 _ rfl rfl (Lies.made w 25 _) rfl rfl ⟨rfl, below1 _ _⟩

end Go.Proofs.Ytbcelelmckkaoaa
