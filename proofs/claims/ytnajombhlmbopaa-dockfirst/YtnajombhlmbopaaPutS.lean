/-
  A store into one cell of a block that is known whole: the world behind it is a letter.
-/
import Derived.Test.YtnajombhlmbopaaStillS
namespace Go.Proofs.Ytnajombhlmbopaa
open Go.RowKit
set_option maxRecDepth 100000
set_option linter.unusedVariables false

/-- Block g is now these cells, all else as before. -/
structure PutW (w w' : World) (g : Nat) (t : TypeId) (cs : Array Value) : Prop where
  lies : Lies w' g t cs
  grown : w.grownBy w' (some g)
  size : w'.heap.size = w.heap.size
theorem putW {w : World} {g i : Nat} {t : TypeId} {cs : Array Value} (hL : Lies w g t cs) (v : Value) : PutW w (w.setCell ⟨g, i, none⟩ v) g t (cs.setIfInBounds i v) :=
  ⟨hL.put i v, ⟨rfl, rfl, rfl, by simp, fun k hk hne => heap_setCell_other w ⟨g, i, none⟩ k v (fun e => hne (by rw [e]))⟩, by simp⟩

theorem wpl_putC {ops : Array Oper} {rest : List Oper} {a : Act} {w : World} {Q : Exit → Act → World → Prop} (dst : Option Tmp) (rty : TypeId) (pos : String) (aft : Array Edge) (ty : TypeId) (x y : Operand)
    (g i : Nat) (t : TypeId) (cs : Array Value) (v : Value) (hx : a.eval x = .pointer (some ⟨g, i, none⟩)) (hy : a.eval y = v) (hL : Lies w g t cs) (hi : i < cs.size)
    (hsz : (Try.prog.info? ty).map (·.size) = some 1) (h1 : v.oneCell' = true)
    (h : ∀ w', PutW w w' g t (cs.setIfInBounds i v) → wpList Try.prog ops Q rest (a.put dst undef) w') :
    wpList Try.prog ops Q (⟨dst, .store ty x y, rty, pos, aft, none⟩ :: rest) a w := by
  refine wpList_plain rfl fun K' hK' => ?_
  have f0 := hL.cell i
  rw [Array.getElem?_eq_getElem hi] at f0
  have f1 := hL.free i
  have hc : v.cells = #[v] := by cases v <;> first | rfl | cases h1
  unfold Oper.wp
  cases hq : Try.prog.info? ty with
  | none => simp [hq] at hsz
  | some inf =>
    have hs : inf.size = 1 := by simpa [hq] using hsz
    have hr : ((Instr.storeAt ty (.pointer (some ⟨g, i, none⟩)) v).run Try.prog w) = .ok () (w.setCell ⟨g, i, none⟩ v) := by
      simp [Instr.storeAt, Instr.sureAddr, storeVar, sizeOf, typeInfo, hq, hs, hc, Result.andThen, storeCells, Addr.add]
      rw [run_store _ _ _ _ _ h1]
      simp [f0, f1]
    simp [execOp, hx, hy, hr, Result.andThen]
    exact hK' _ _ (h _ (putW hL v))

end Go.Proofs.Ytnajombhlmbopaa
