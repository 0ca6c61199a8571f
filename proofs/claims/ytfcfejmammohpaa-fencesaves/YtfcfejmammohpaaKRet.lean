/-
  How functions that give structs end.
-/
import Derived.Test.YtfcfejmammohpaaKRow
import Derived.Test.YtfcfejmammohpaaNGet
import Derived.Laws.ResultCell
namespace Go.Proofs.Ytfcfejmammohpaa
open Go.RowKit
set_option maxRecDepth 100000
set_option linter.unusedVariables false

theorem results_cell1 {fn : Func} {p : Tmp} {ty : TypeId} (h : fn.results = #[.cell p ty]) (tmps : Array Value) (w : World) (g : Nat) (cs : Array Value)
    (hp : tmps.getD p undef = .pointer (some ⟨g, 0, none⟩)) (hr : (loadVar ty ⟨g, 0, none⟩).run Try.prog w = .ok (.agg cs) w) :
    (results fn tmps).run Try.prog w = .ok (.agg cs) w := by
  have hp' : tmps[p]?.getD undef = .pointer (some ⟨g, 0, none⟩) := by simpa using hp
  simp [results, h, hp', asAddr, hr]
theorem results_cell3 {fn : Func} {q p u : Tmp} {ty : TypeId} (h : fn.results = #[.tmp q, .cell p ty, .tmp u]) (tmps : Array Value) (w : World) (g : Nat) (cs : Array Value)
    (hp : tmps.getD p undef = .pointer (some ⟨g, 0, none⟩)) (hr : (loadVar ty ⟨g, 0, none⟩).run Try.prog w = .ok (.agg cs) w) :
    (results fn tmps).run Try.prog w = .ok (.tuple #[tmps.getD q undef, .agg cs, tmps.getD u undef]) w := by
  have hp' : tmps[p]?.getD undef = .pointer (some ⟨g, 0, none⟩) := by simpa using hp
  simp [results, h, hp', asAddr, hr]
theorem ret_key {fn : Func} {R : Ending → World → Prop} {a : Act} {w : World} {p : Tmp} (g : Nat) (t : TypeId) (cs : Array Value) (h : fn.results = #[.cell p 85]) (hp : a.tmps.getD p undef = .pointer (some ⟨g, 0, none⟩)) (hg : Lies w g t cs) (hs : cs.size = 3) (hd : a.defers = [])
    (hR : R (.returned (.agg cs)) w) : bodyPost Try.prog fn R .ret a w :=
  bodyPost_ret (results_cell1 h _ _ g cs hp (run_loadVar_row w g t 85 cs (0, 0) _ hg Try.underlying85 rfl (by rw [hs]; kernel_rfl))) hd hR
theorem ret_kept {fn : Func} {R : Ending → World → Prop} {a : Act} {w : World} {p : Tmp} (g : Nat) (t : TypeId) (cs : Array Value) (h : fn.results = #[.cell p 34]) (hp : a.tmps.getD p undef = .pointer (some ⟨g, 0, none⟩)) (hg : Lies w g t cs) (hs : cs.size = 6) (hd : a.defers = [])
    (hR : R (.returned (.agg cs)) w) : bodyPost Try.prog fn R .ret a w :=
  bodyPost_ret (results_cell1 h _ _ g cs hp (run_loadVar_row w g t 34 cs (0, 0) _ hg Try.underlying34 rfl (by rw [hs]; kernel_rfl))) hd hR
theorem ret_note {fn : Func} {R : Ending → World → Prop} {a : Act} {w : World} {p : Tmp} (g : Nat) (t : TypeId) (cs : Array Value) (h : fn.results = #[.cell p 29]) (hp : a.tmps.getD p undef = .pointer (some ⟨g, 0, none⟩)) (hg : Lies w g t cs) (hs : cs.size = 11) (hd : a.defers = [])
    (hR : R (.returned (.agg cs)) w) : bodyPost Try.prog fn R .ret a w :=
  bodyPost_ret (results_cell1 h _ _ g cs hp (run_loadVar_row w g t 29 cs (0, 0) _ hg Try.underlying29 rfl (by rw [hs]; kernel_rfl))) hd hR
theorem ret_fence1 {fn : Func} {R : Ending → World → Prop} {a : Act} {w : World} {p : Tmp} (g : Nat) (t : TypeId) (cs : Array Value) (h : fn.results = #[.cell p 25]) (hp : a.tmps.getD p undef = .pointer (some ⟨g, 0, none⟩)) (hg : Lies w g t cs) (hs : cs.size = 2) (hd : a.defers = [])
    (hR : R (.returned (.agg cs)) w) : bodyPost Try.prog fn R .ret a w :=
  bodyPost_ret (results_cell1 h _ _ g cs hp (run_loadVar_row w g t 25 cs (0, 0) _ hg Try.underlying25 rfl (by rw [hs]; kernel_rfl))) hd hR
theorem ret_keptB {fn : Func} {R : Ending → World → Prop} {a : Act} {w : World} {p u : Tmp} (g : Nat) (t : TypeId) (cs : Array Value) (h : fn.results = #[.cell p 34, .tmp u]) (hp : a.tmps.getD p undef = .pointer (some ⟨g, 0, none⟩)) (hg : Lies w g t cs) (hs : cs.size = 6) (hd : a.defers = [])
    (hR : R (.returned (.tuple #[.agg cs, a.tmps.getD u undef])) w) : bodyPost Try.prog fn R .ret a w :=
  bodyPost_ret (results_cell_run h _ _ g cs hp (run_loadVar_row w g t 34 cs (0, 0) _ hg Try.underlying34 rfl (by rw [hs]; kernel_rfl))) hd hR
theorem ret_fence {fn : Func} {R : Ending → World → Prop} {a : Act} {w : World} {p u : Tmp} (g : Nat) (t : TypeId) (cs : Array Value) (h : fn.results = #[.cell p 25, .tmp u]) (hp : a.tmps.getD p undef = .pointer (some ⟨g, 0, none⟩)) (hg : Lies w g t cs) (hs : cs.size = 2) (hd : a.defers = [])
    (hR : R (.returned (.tuple #[.agg cs, a.tmps.getD u undef])) w) : bodyPost Try.prog fn R .ret a w :=
  bodyPost_ret (results_cell_run h _ _ g cs hp (run_loadVar_row w g t 25 cs (0, 0) _ hg Try.underlying25 rfl (by rw [hs]; kernel_rfl))) hd hR
theorem ret_ask {fn : Func} {R : Ending → World → Prop} {a : Act} {w : World} {q p u : Tmp} (g : Nat) (t : TypeId) (cs : Array Value) (h : fn.results = #[.tmp q, .cell p 34, .tmp u]) (hp : a.tmps.getD p undef = .pointer (some ⟨g, 0, none⟩)) (hg : Lies w g t cs) (hs : cs.size = 6) (hd : a.defers = [])
    (hR : R (.returned (.tuple #[a.tmps.getD q undef, .agg cs, a.tmps.getD u undef])) w) : bodyPost Try.prog fn R .ret a w :=
  bodyPost_ret (results_cell3 h _ _ g cs hp (run_loadVar_row w g t 34 cs (0, 0) _ hg Try.underlying34 rfl (by rw [hs]; kernel_rfl))) hd hR

/-- What the walk leaves behind stores of whole structs. -/
abbrev put6 (w : World) (g : Nat) (a0 a1 a2 a3 a4 a5 : Value) : World := (((((w.setCell ⟨g, 0, none⟩ a0).setCell ⟨g, 1, none⟩ a1).setCell ⟨g, 2, none⟩ a2).setCell ⟨g, 3, none⟩ a3).setCell ⟨g, 4, none⟩ a4).setCell ⟨g, 5, none⟩ a5
abbrev put2 (w : World) (g : Nat) (a0 a1 : Value) : World := (w.setCell ⟨g, 0, none⟩ a0).setCell ⟨g, 1, none⟩ a1
theorem Lies.put6 {w : World} {g : Nat} {t : TypeId} {z0 z1 z2 z3 z4 z5 : Value} (h : Lies w g t #[z0, z1, z2, z3, z4, z5]) (a0 a1 a2 a3 a4 a5 : Value) : Lies (put6 w g a0 a1 a2 a3 a4 a5) g t #[a0, a1, a2, a3, a4, a5] := (((((h.put 0 a0).put 1 a1).put 2 a2).put 3 a3).put 4 a4).put 5 a5
theorem Lies.put2 {w : World} {g : Nat} {t : TypeId} {z0 z1 : Value} (h : Lies w g t #[z0, z1]) (a0 a1 : Value) : Lies (put2 w g a0 a1) g t #[a0, a1] := (h.put 0 a0).put 1 a1
theorem below_put6 {B g : Nat} {w0 w : World} (h : Below B w0 w) (hg : B ≤ g) (a0 a1 a2 a3 a4 a5 : Value) : Below B w0 (put6 w g a0 a1 a2 a3 a4 a5) := (((((h.setCell (p := ⟨g, 0, none⟩) hg a0).setCell (p := ⟨g, 1, none⟩) hg a1).setCell (p := ⟨g, 2, none⟩) hg a2).setCell (p := ⟨g, 3, none⟩) hg a3).setCell (p := ⟨g, 4, none⟩) hg a4).setCell (p := ⟨g, 5, none⟩) hg a5
theorem below_put2 {B g : Nat} {w0 w : World} (h : Below B w0 w) (hg : B ≤ g) (a0 a1 : Value) : Below B w0 (put2 w g a0 a1) := (h.setCell (p := ⟨g, 0, none⟩) hg a0).setCell (p := ⟨g, 1, none⟩) hg a1
theorem Lies.put6_other {w : World} {g g' : Nat} {t : TypeId} {cs : Array Value} (h : Lies w g t cs) (hn : g ≠ g') (a0 a1 a2 a3 a4 a5 : Value) : Lies (Go.Proofs.Ytfcfejmammohpaa.put6 w g' a0 a1 a2 a3 a4 a5) g t cs := (((((h.other (a := ⟨g', 0, none⟩) hn a0).other (a := ⟨g', 1, none⟩) hn a1).other (a := ⟨g', 2, none⟩) hn a2).other (a := ⟨g', 3, none⟩) hn a3).other (a := ⟨g', 4, none⟩) hn a4).other (a := ⟨g', 5, none⟩) hn a5
theorem Lies.cells6 {w : World} {g : Nat} {t : TypeId} {z0 z1 z2 z3 z4 z5 : Value} (h : Lies w g t #[z0, z1, z2, z3, z4, z5]) : w.cell? ⟨g, 0, none⟩ = some z0 ∧ w.cell? ⟨g, 1, none⟩ = some z1 ∧ w.cell? ⟨g, 2, none⟩ = some z2 ∧ w.cell? ⟨g, 3, none⟩ = some z3 ∧ w.cell? ⟨g, 4, none⟩ = some z4 ∧ w.cell? ⟨g, 5, none⟩ = some z5 := ⟨h.cell 0, h.cell 1, h.cell 2, h.cell 3, h.cell 4, h.cell 5⟩
theorem Lies.free6 {w : World} {g : Nat} {t : TypeId} {cs : Array Value} (h : Lies w g t cs) : w.frozen? ⟨g, 0, none⟩ = false ∧ w.frozen? ⟨g, 1, none⟩ = false ∧ w.frozen? ⟨g, 2, none⟩ = false ∧ w.frozen? ⟨g, 3, none⟩ = false ∧ w.frozen? ⟨g, 4, none⟩ = false ∧ w.frozen? ⟨g, 5, none⟩ = false := ⟨h.free 0, h.free 1, h.free 2, h.free 3, h.free 4, h.free 5⟩
theorem Lies.cells2 {w : World} {g : Nat} {t : TypeId} {z0 z1 : Value} (h : Lies w g t #[z0, z1]) : w.cell? ⟨g, 0, none⟩ = some z0 ∧ w.cell? ⟨g, 1, none⟩ = some z1 := ⟨h.cell 0, h.cell 1⟩
theorem Lies.free2 {w : World} {g : Nat} {t : TypeId} {cs : Array Value} (h : Lies w g t cs) : w.frozen? ⟨g, 0, none⟩ = false ∧ w.frozen? ⟨g, 1, none⟩ = false := ⟨h.free 0, h.free 1⟩
theorem Lies.cells3 {w : World} {g : Nat} {t : TypeId} {z0 z1 z2 : Value} (h : Lies w g t #[z0, z1, z2]) : w.cell? ⟨g, 0, none⟩ = some z0 ∧ w.cell? ⟨g, 1, none⟩ = some z1 ∧ w.cell? ⟨g, 2, none⟩ = some z2 := ⟨h.cell 0, h.cell 1, h.cell 2⟩
theorem Lies.free3 {w : World} {g : Nat} {t : TypeId} {cs : Array Value} (h : Lies w g t cs) : w.frozen? ⟨g, 0, none⟩ = false ∧ w.frozen? ⟨g, 1, none⟩ = false ∧ w.frozen? ⟨g, 2, none⟩ = false := ⟨h.free 0, h.free 1, h.free 2⟩

end Go.Proofs.Ytfcfejmammohpaa
