/-
  What lies elsewhere stays where one block is written over.
-/
import Derived.Test.YtfcfejmammohpaaSpoilK
namespace Go.Proofs.Ytfcfejmammohpaa
open Go.RowKit
set_option linter.unusedVariables false

theorem OwnK.gLow {w w' : World} {B g : Nat} {v : Value} {n : Nat} {X : Nat → Kx} (h : OwnK w B v n X) (hg : w.grownBy w' (some g)) (hl : g < B) : OwnK w' B v n X :=
  h.same (fun k hk => hg.block k (h.blockLt k hk) (fun e => by have := h.block k hk; injection e with e; omega))
theorem Own.gLow {w w' : World} {B g : Nat} {v : Value} {l : List Nat} (h : Own w B v l) (hg : w.grownBy w' (some g)) (hl : g < B) : Own w' B v l :=
  h.grownOther hg (fun k hk e => by have := h.block k hk; injection e with e; omega)
theorem NF.gLow {w w' : World} {B g : Nat} {v : Value} {n : Nat} {X : Nat → Kx} (h : NF w B v n X) (hg : w.grownBy w' (some g)) (hl : g < B) : NF w' B v n X :=
  ⟨h.row.gLow hg hl, fun i hi => (h.a i hi).gLow hg hl, fun i hi => (h.r i hi).gLow hg hl, h.b, h.da, h.dr⟩
theorem below_gOne {a w w' : World} {B g : Nat} (h : Below B a w) (hg : w.grownBy w' (some g)) (h2 : B ≤ w.heap.size) (hl : B ≤ g) : Below B a w' := h.grown hg h2 (fun k hk => by injection hk with hk; omega)

end Go.Proofs.Ytfcfejmammohpaa
