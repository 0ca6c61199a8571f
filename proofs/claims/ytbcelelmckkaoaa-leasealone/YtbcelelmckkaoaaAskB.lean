/-
  The contract of asks.
-/
import Derived.Test.YtbcelelmckkaoaaAMath
import Derived.Test.YtbcelelmckkaoaaGrant
import Derived.Test.YtbcelelmckkaoaaRenew
import Derived.Test.YtbcelelmckkaoaaTurn
import Derived.Test.YtbcelelmckkaoaaEq
import Derived.Test.YtbcelelmckkaoaaRegLaw
import Derived.Deep.DeepCutAuto
import Derived.Deep.LoopGhost
namespace Go.Proofs.Ytbcelelmckkaoaa
open Go.RowKit
set_option linter.unusedVariables false

theorem Lies.drewN {w : World} {g : Nat} {t : TypeId} {cs : Array Value} (h : Lies w g t cs) (n : Nat) : Lies (w.drewN n) g t cs := h
/-- The cells of a run. -/
abbrev rc (e : Nat) (h : Int) (u : Nat) (m : Int) (now : Nat) (v : Value) : Array Value := #[.int .u32 (e : Int), .int .i64 h, .int .u64 (u : Int), .int .i64 m, .int .u64 (now : Int), v]
/-- The cells of an ask. -/
abbrev ac (kind : Int) (wt : Nat) (wh : Int) (ln : Nat) (md : Int) : Array Value := #[.int .i64 kind, .int .u16 (wt : Int), .int .i64 wh, .int .u16 (ln : Int), .int .i64 md]
theorem Lies.cells6 {w : World} {g : Nat} {t : TypeId} {a b c d e f : Value} (h : Lies w g t #[a, b, c, d, e, f]) :
    w.cell? ⟨g, 0, none⟩ = some a ∧ w.cell? ⟨g, 1, none⟩ = some b ∧ w.cell? ⟨g, 2, none⟩ = some c ∧ w.cell? ⟨g, 3, none⟩ = some d ∧ w.cell? ⟨g, 4, none⟩ = some e ∧ w.cell? ⟨g, 5, none⟩ = some f := ⟨h.cell 0, h.cell 1, h.cell 2, h.cell 3, h.cell 4, h.cell 5⟩
theorem Lies.cells5 {w : World} {g : Nat} {t : TypeId} {a b c d e : Value} (h : Lies w g t #[a, b, c, d, e]) :
    w.cell? ⟨g, 0, none⟩ = some a ∧ w.cell? ⟨g, 1, none⟩ = some b ∧ w.cell? ⟨g, 2, none⟩ = some c ∧ w.cell? ⟨g, 3, none⟩ = some d ∧ w.cell? ⟨g, 4, none⟩ = some e := ⟨h.cell 0, h.cell 1, h.cell 2, h.cell 3, h.cell 4⟩
theorem Lies.free6 {w : World} {g : Nat} {t : TypeId} {cs : Array Value} (h : Lies w g t cs) :
    w.frozen? ⟨g, 0, none⟩ = false ∧ w.frozen? ⟨g, 1, none⟩ = false ∧ w.frozen? ⟨g, 2, none⟩ = false ∧ w.frozen? ⟨g, 3, none⟩ = false ∧ w.frozen? ⟨g, 4, none⟩ = false ∧ w.frozen? ⟨g, 5, none⟩ = false := ⟨h.free 0, h.free 1, h.free 2, h.free 3, h.free 4, h.free 5⟩
def AskPost (k R : Nat) (w : World) (x : Ending) (w' : World) : Prop :=
  x = .returned (.bool true) ∧ ∃ (e : Nat) (h : Int) (u : Nat) (m : Int) (now n : Nat) (T : Nat → Ls) (v : Value), Inv (k + 1) ⟨e, h, u, m⟩ now n T ∧ Lies w' R 48 (rc e h u m now v) ∧ OwnF w' (R + 1) v n T ∧ Below R w w'
/-- The own last epoch, as the first loop finds it. -/
def OwnR (n : Nat) (o i : Value) : Prop := ∃ j own : Nat, j ≤ n ∧ own < 4294967296 ∧ i = .int .i64 (j : Int) ∧ o = .int .u32 (own : Int)
/-- The second loop. -/
def UpR (R P n : Nat) (rc ac : Array Value) (v : Value) (T : Nat → Ls) (x : Ls) (w : World) (i : Value) (wr : World) : Prop :=
  ∃ j : Nat, j ≤ n ∧ i = .int .i64 (j : Int) ∧ Lies wr R 48 rc ∧ Lies wr P 25 ac ∧ OwnF wr (R + 1) v n (upd T x j) ∧ Below R w wr

end Go.Proofs.Ytbcelelmckkaoaa
