/-
  What the loop of the calls holds on to.
-/
import Derived.Test.YtfcfejmammohpaaCall1
namespace Go.Proofs.Ytfcfejmammohpaa
open Go.RowKit
set_option maxRecDepth 100000
set_option linter.unusedVariables false
set_option linter.unusedSimpArgs false

theorem SM.drewN {w0 w : World} {gs : Nat} {s : St} (h : SM w0 gs s w) (k : Nat) : SM w0 gs s (w.drewN k) := ⟨h.hg, h.box, ⟨h.f.row, h.f.a, h.f.r, h.f.b, h.f.da, h.f.dr⟩, h.d, h.df, ⟨h.t.row, h.t.a, h.t.r, h.t.b⟩, ⟨h.o.row, h.o.a, h.o.r, h.o.b⟩, h.fd, h.ft, h.fo, h.dt, h.dO, h.tO, below_drewN h.bel k⟩
/-- The loop over what was undone. -/
def OvR (x2 : World) (no : Nat) (i : Value) (wr : World) : Prop := ∃ (j k : Nat), j ≤ no ∧ i = .int .i64 (j : Int) ∧ wr = x2.drewN k
theorem and4 {a b c d e f : Prop} (h1 : a ∧ b) (h2 : c ∧ d) (h3 : e ∧ f) : a ∧ b ∧ c ∧ d ∧ e ∧ f := ⟨h1.1, h1.2, h2.1, h2.2, h3.1, h3.2⟩

end Go.Proofs.Ytfcfejmammohpaa
