/-
  What all laws' walks stand on: acts ahead of what a law looks at.
-/
import Derived.Test.YtnajombhlmbopaaKnown
import Derived.Deep.DeepCutAuto
import Derived.Deep.CutRange
import Derived.Deep.CutBlock
namespace Go.Proofs.Ytnajombhlmbopaa
open Go.Proofs Go.RowKit
set_option maxRecDepth 100000
set_option linter.unusedVariables false
set_option linter.unusedSimpArgs false

/-- Acts ahead of what a law looks at. -/
def AcR (lim : Nat) (w : World) (R : List Int) (a : List Ac) (b : SB) (i : Value) (wr : World) : Prop := ∃ (j : Nat) (q : Ss), j ≤ a.length ∧ j ≤ lim ∧ i = .int .i64 (j : Int) ∧ SW w wr R b q ∧ q.H.length ≤ j
def AcE (lim : Nat) (w : World) (R : List Int) (b : SB) (wr : World) : Prop := ∃ q : Ss, SW w wr R b q ∧ q.H.length ≤ lim
theorem in64_0 : in64 0 := by unfold in64; omega
theorem in64_1 : in64 1 := by unfold in64; omega

end Go.Proofs.Ytnajombhlmbopaa
