/-
  The contract of the document's Get: what it says.
-/
import Derived.Test.YtccpmalefdnhdaaRfRd
import Derived.Test.YtccpmalefdnhdaaRPut
import Derived.Test.YtccpmalefdnhdaaEGet2
namespace Go.Proofs.Ytccpmalefdnhdaa
open Go.RowKit

abbrev zc : Array Value := #[.int .i64 0, .int .u64 0, .int .u32 0, .int .u32 0, .int .i64 0, .bool false, .int .i64 0, .int .i64 0, .int .u64 0, .slice none 0 0, .slice none 0 0]
abbrev zk (k : Int) : Array Value := #[.int .i64 k, .int .u64 0, .int .u32 0, .int .u32 0, .int .i64 0, .bool false, .int .i64 0, .int .i64 0, .int .u64 0, .slice none 0 0, .slice none 0 0]
def fpos : Nat → Bool := fun n => decide (0 < n)
/-- What the document's Get answers. -/
def RGetPost (l : List Nat) (w : World) (x : Ending) (w' : World) : Prop :=
  Below w.heap.size w w' ∧
  ((∃ e K D, Ent.get fpos l = some e ∧ x = .returned (.tuple #[.agg (evs e K D), .int .i64 0]) ∧ Tx w' w.heap.size K e.key ∧ Tx w' w.heap.size D e.data) ∨
   (Ent.get fpos l = none ∧ x = .returned (.tuple #[.agg (evs Ent.zero nilV nilV), .int .i64 40])))
theorem Tx.puts {w : World} {B : Nat} {v : Value} {l : List Nat} {b : Nat} (h : Tx w B v l) (hb : b < B) (vs : List Value) (o : Nat) : Tx (w.setCells b o vs) B v l := by
  induction vs generalizing w o with
  | nil => exact h
  | cons u r ih => exact ih (h.put (o := o) hb u) (o + 1)

end Go.Proofs.Ytccpmalefdnhdaa
