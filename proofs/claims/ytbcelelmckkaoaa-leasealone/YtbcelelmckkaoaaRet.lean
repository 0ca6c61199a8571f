/-
  How a function that gives a lease and a number ends.
-/
import Derived.Test.YtbcelelmckkaoaaHolds
import Derived.Laws.ResultCell
namespace Go.Proofs.Ytbcelelmckkaoaa
open Go.RowKit
set_option linter.unusedVariables false
theorem results_cell_run {fn : Func} {p u : Tmp} {ty : TypeId} (h : fn.results = #[.cell p ty, .tmp u]) (tmps : Array Value) (w : World) (g : Nat) (cs : Array Value)
    (hp : tmps.getD p undef = .pointer (some ⟨g, 0, none⟩)) (hr : (loadVar ty ⟨g, 0, none⟩).run Try.prog w = .ok (.agg cs) w) :
    (results fn tmps).run Try.prog w = .ok (.tuple #[.agg cs, tmps.getD u undef]) w := by
  rw [results_cell_tmp h, hp]
  simp [asAddr, hr, Result.andThen]
set_option maxRecDepth 100000 in
theorem ret_L {fn : Func} {R : Ending → World → Prop} {a : Act} {w : World} {p u : Tmp} (g : Nat) (t : TypeId) (cs : Array Value) (h : fn.results = #[.cell p 25, .tmp u]) (hp : a.tmps.getD p undef = .pointer (some ⟨g, 0, none⟩)) (hg : Lies w g t cs) (hs : cs.size = 4) (hd : a.defers = [])
    (hR : R (.returned (.tuple #[.agg cs, a.tmps.getD u undef])) w) : bodyPost Try.prog fn R .ret a w :=
  bodyPost_ret (results_cell_run h _ _ g cs hp (run_loadVar_row w g t 25 cs (0, 0) _ hg Try.underlying25 rfl (by rw [hs]; kernel_rfl))) hd hR

/-- A block of four cells, stored anew. -/
abbrev st4 (w : World) (g : Nat) (a b c d : Value) : World := (((w.setCell ⟨g, 0, none⟩ a).setCell ⟨g, 1, none⟩ b).setCell ⟨g, 2, none⟩ c).setCell ⟨g, 3, none⟩ d
theorem Lies.put4 {w : World} {g : Nat} {t : TypeId} {x y z v : Value} (h : Lies w g t #[x, y, z, v]) (a b c d : Value) : Lies (st4 w g a b c d) g t #[a, b, c, d] := (((h.put 0 a).put 1 b).put 2 c).put 3 d
theorem Lies.put4_other {w : World} {g g' : Nat} {t : TypeId} {cs : Array Value} (h : Lies w g t cs) (hn : g ≠ g') (a b c d : Value) : Lies (st4 w g' a b c d) g t cs := (((h.other (a := ⟨g', 0, none⟩) hn a).other (a := ⟨g', 1, none⟩) hn b).other (a := ⟨g', 2, none⟩) hn c).other (a := ⟨g', 3, none⟩) hn d
theorem below_put4 {B g : Nat} {w0 w : World} (h : Below B w0 w) (hg : B ≤ g) (a b c d : Value) : Below B w0 (st4 w g a b c d) := (((h.setCell (p := ⟨g, 0, none⟩) hg a).setCell (p := ⟨g, 1, none⟩) hg b).setCell (p := ⟨g, 2, none⟩) hg c).setCell (p := ⟨g, 3, none⟩) hg d
theorem ret_put4 {fn : Func} {a : Act} {w0 w1 : World} {p q : Tmp} {g : Nat} {z0 z1 z2 z3 v0 v1 v2 v3 : Value} {c : Int} (h : fn.results = #[.cell p 25, .tmp q]) (hp : a.tmps.getD p undef = .pointer (some ⟨g, 0, none⟩)) (hL : Lies w1 g 25 #[z0, z1, z2, z3]) (hd : a.defers = [])
    (hB : Below w0.heap.size w0 w1) (hg : w0.heap.size ≤ g) (hq : a.tmps.getD q undef = .int .i64 c) :
    bodyPost Try.prog fn (fun x w' => x = .returned (.tuple #[.agg #[v0, v1, v2, v3], .int .i64 c]) ∧ Below w0.heap.size w0 w') .ret a (st4 w1 g v0 v1 v2 v3) :=
  ret_L g 25 _ h hp (hL.put4 _ _ _ _) rfl hd ⟨by rw [hq], below_put4 hB hg _ _ _ _⟩
theorem ans_eq {a b c d e a' b' c' d' e'} (h : ((a, b, c, d, e) : Ans) = (a', b', c', d', e')) : a = a' ∧ b = b' ∧ c = c' ∧ d = d' ∧ e = e' := by simpa using h

end Go.Proofs.Ytbcelelmckkaoaa
