/-
  Steps of a region whose order is open: a store into a block known whole; an append of a number.
-/
import Derived.Test.YtnajombhlmbopaaAppE
import Derived.Test.YtnajombhlmbopaaPutS
namespace Go.Proofs.Ytnajombhlmbopaa
open Go.Proofs Go.RowKit Go.Maps
set_option maxRecDepth 100000
set_option linter.unusedVariables false

theorem stp_putC {ops : Array Oper} {a : Act} {w : World} {K : Act → World → Prop} {Q : Exit → Act → World → Prop} {E : Prop} (dst : Option Tmp) (rty : TypeId) (pos : String) (aft : Array Edge) (ty : TypeId) (x y : Operand)
    (g i : Nat) (t : TypeId) (cs : Array Value) (v : Value) (hx : a.eval x = .pointer (some ⟨g, i, none⟩)) (hy : a.eval y = v) (hL : Lies w g t cs) (hi : i < cs.size)
    (hsz : (Try.prog.info? ty).map (·.size) = some 1) (h1 : v.oneCell' = true)
    (h : ∀ w', PutW w w' g t (cs.setIfInBounds i v) → K (a.put dst undef) w') :
    if Region.wanted ⟨dst, .store ty x y, rty, pos, aft, none⟩ (yielded ops a.tmps) = true then Oper.wp Try.prog ⟨dst, .store ty x y, rty, pos, aft, none⟩ a w K Q else E := by
  rw [if_pos (by simp [Region.wanted])]
  have f0 := hL.cell i
  rw [Array.getElem?_eq_getElem hi] at f0
  have f1 := hL.free i
  have hc : v.cells = #[v] := by cases v <;> first | rfl | cases h1
  unfold Oper.wp
  cases hq : Try.prog.info? ty with
  | none => simp [hq] at hsz
  | some inf =>
    have hs : inf.size = 1 := by simpa [hq] using hsz
    have hr : ((Instr.storeAt ty (.pointer (some ⟨g, i, none⟩)) v).run Try.prog w) = .ok () (w.setCell ⟨g, i, none⟩ v) := by
      simp [Instr.storeAt, Instr.sureAddr, storeVar, sizeOf, typeInfo, hq, hs, hc, Result.andThen, storeCells, Addr.add]
      rw [run_store _ _ _ _ _ h1]
      simp [f0, f1]
    simp [execOp, hx, hy, hr, Result.andThen]
    exact h _ (putW hL v)

theorem stp_appI {ops : Array Oper} {a : Act} {w : World} {K : Act → World → Prop} {Q : Exit → Act → World → Prop} {E : Prop} (dst : Option Tmp) (ty : TypeId) (pos : String) (aft : Array Edge) (s x : Operand)
    (B : Nat) (v : Value) (l : List Int) (g : Nat) (z : Int)
    (hs : a.eval s = v) (hx : a.eval x = .slice (some ⟨g, 0, none⟩) 1 1) (hown : OwnI w B v l) (hsrc : Lies w g 3 #[.int .i64 z]) (hsm : l.length ≤ 100000) (hB : B ≤ w.heap.size)
    (h : ∀ v' w', OwnI w' B v' (l ++ [z]) → w.grownBy w' v.ownBlock → (v'.ownBlock = v.ownBlock ∨ v'.ownBlock = some w.heap.size) → K (a.put dst v') w') :
    if Region.wanted ⟨dst, .call { callee := .builtin .append, args := #[s, x], argTypes := #[22, 22] }, ty, pos, aft, none⟩ (yielded ops a.tmps) = true then Oper.wp Try.prog ⟨dst, .call { callee := .builtin .append, args := #[s, x], argTypes := #[22, 22] }, ty, pos, aft, none⟩ a w K Q else E := by
  rw [if_pos (by simp [Region.wanted])]
  have hsrc' : Lies w g 3 (encI z).toArray := hsrc
  obtain ⟨v', w', hr, h2, h3, h4, h5⟩ := run_append_own_at (P := Try.prog) w B 22 ty 3 _ _ 1 8 Try.underlying22 Try.type3 rfl rfl rfl rfl (by decide) v l.length (flat encI l) hown ⟨g, 0, none⟩ 1 1 (encI z) rfl (fun j u hu => by
    rw [Addr.add_mid, Nat.zero_add, hsrc'.cell]
    simpa using hu) (encI_one z) (by unfold maxLen; omega) (by omega) hB
  unfold Oper.wp execOp
  simp only [resolve, invoke, builtin, Sem.run_bind, Sem.run_pure, Result.andThen_ok, List.map_toArray, List.map_cons, List.map_nil, hs, hx, hr]
  refine h v' w' ?_ h3 h5
  show w'.ownsRow B 3 1 v' (l ++ [z]).length (flat encI (l ++ [z]))
  rw [List.length_append, show flat encI (l ++ [z]) = flat encI l ++ encI z from by simp [flat]]
  exact h2

end Go.Proofs.Ytnajombhlmbopaa
