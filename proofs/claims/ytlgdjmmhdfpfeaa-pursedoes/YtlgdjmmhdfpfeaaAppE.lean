/-
  'append' of one good, of one hold, to a row of the call's own.
-/
import Derived.Test.YtlgdjmmhdfpfeaaSortE
namespace Go.Proofs.Ytlgdjmmhdfpfeaa
open Go.Proofs Go.RowKit Go.Maps
set_option maxRecDepth 100000
set_option linter.unusedVariables false

theorem wpl_appG {ops : Array Oper} {rest : List Oper} {a : Act} {w : World} {Q : Exit → Act → World → Prop} (dst : Option Tmp) (ty : TypeId) (pos : String) (aft : Array Edge) (s x : Operand)
    (B : Nat) (v : Value) (l : List Kd) (g : Nat) (n : List UInt8) (f z : Int)
    (hs : a.eval s = v) (hx : a.eval x = .slice (some ⟨g, 0, none⟩) 1 1) (hown : OwnG w B v l) (hsrc : Lies w g 46 #[encStr n, .int .i64 f, .int .i64 z]) (hsm : l.length ≤ 100000) (hB : B ≤ w.heap.size)
    (h : ∀ v' w', OwnG w' B v' (l ++ [⟨n, f, z⟩]) → w.grownBy w' v.ownBlock → (v'.ownBlock = v.ownBlock ∨ v'.ownBlock = some w.heap.size) → wpList Try.prog ops Q rest (a.put dst v') w') :
    wpList Try.prog ops Q (⟨dst, .call { callee := .builtin .append, args := #[s, x], argTypes := #[22, 22] }, ty, pos, aft, none⟩ :: rest) a w :=
  wpl_app1 22 _ _ 32 Try.underlying22 Try.type46 rfl rfl rfl rfl (by decide) (by decide) encG_len encG_one dst ty pos aft s x B v l g ⟨n, f, z⟩ hs hx hown hsrc hsm hB h
theorem wpl_appH {ops : Array Oper} {rest : List Oper} {a : Act} {w : World} {Q : Exit → Act → World → Prop} (dst : Option Tmp) (ty : TypeId) (pos : String) (aft : Array Edge) (s x : Operand)
    (B : Nat) (v : Value) (l : List Hd) (g : Nat) (o : Nat) (n : List UInt8) (f : Int) (z : Nat)
    (hs : a.eval s = v) (hx : a.eval x = .slice (some ⟨g, 0, none⟩) 1 1) (hown : OwnR w B v l) (hsrc : Lies w g 48 #[.int .u32 (o : Int), encStr n, .int .i64 f, .int .i64 (z : Int)]) (hsm : l.length ≤ 100000) (hB : B ≤ w.heap.size)
    (h : ∀ v' w', OwnR w' B v' (l ++ [⟨o, n, f, z⟩]) → w.grownBy w' v.ownBlock → (v'.ownBlock = v.ownBlock ∨ v'.ownBlock = some w.heap.size) → wpList Try.prog ops Q rest (a.put dst v') w') :
    wpList Try.prog ops Q (⟨dst, .call { callee := .builtin .append, args := #[s, x], argTypes := #[40, 40] }, ty, pos, aft, none⟩ :: rest) a w :=
  wpl_app1 40 _ _ 40 Try.underlying40 Try.type48 rfl rfl rfl rfl (by decide) (by decide) encH_len encH_one dst ty pos aft s x B v l g ⟨o, n, f, z⟩ hs hx hown hsrc hsm hB h

end Go.Proofs.Ytlgdjmmhdfpfeaa
