/-
  A region that draws: all but its tail leaves the world alone: one step at a time, by an equation each.
-/
import Derived.Test.YtnajombhlmbopaaBase
import Derived.StillTailTactics
namespace Go.Proofs.Ytnajombhlmbopaa
open Go.RowKit
set_option maxRecDepth 100000
set_option linter.unusedVariables false
section
variable {P : Program} {ops : Array Oper} {Q : Act → Prop} {w : World}
theorem still_val {o : Oper} {rest : List Oper} {a : Act} (d : Tmp) (v : Value) (hd : o.dst = some d) (hw : Region.wanted o (yielded ops a.tmps) = true) (hy : (execOp a.eval o).run P w = .ok (.value v) w) (h : wpStill P ops w Q rest (a.put (some d) v)) : wpStill P ops w Q (o :: rest) a := by
  unfold wpStill
  rw [if_pos hw]
  unfold Oper.still
  rw [hy]
  exact ⟨rfl, by rw [hd]; exact h⟩
theorem still_skip {o : Oper} {rest : List Oper} {a : Act} (d : Tmp) (hd : o.dst = some d) (hw : Region.wanted o (yielded ops a.tmps) = false) (h : wpStill P ops w Q rest (a.put (some d) undef)) : wpStill P ops w Q (o :: rest) a := by
  unfold wpStill
  rw [if_neg (by rw [hw]; decide), hd]
  exact h
theorem still_cal {o : Oper} {rest : List Oper} {a : Act} (d : Tmp) (f : FuncId) (args : Array Value) (v : Value) (hd : o.dst = some d) (hw : Region.wanted o (yielded ops a.tmps) = true) (hy : (execOp a.eval o).run P w = .ok (.enter f args) w)
    (hc : Calls P f args w fun e w' => e = .returned v ∧ w' = w) (h : wpStill P ops w Q rest (a.put (some d) v)) : wpStill P ops w Q (o :: rest) a := by
  unfold wpStill
  rw [if_pos hw]
  unfold Oper.still
  rw [hy]
  exact ⟨rfl, v, hc, by rw [hd]; exact h⟩
end

end Go.Proofs.Ytnajombhlmbopaa
