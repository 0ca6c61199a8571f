/-
  Texts of one proof, in their order: FeNGet, FeKRet, FeCmp, FeClone.
-/
import Derived.Laws.ResultCell
import Derived.Deep.RegionHeld3
import Derived.Deep.DrawnRows
import Derived.Laws.Cover3
import Derived.Deep.RegionWith
import Derived.Test.YtpbclmnhkmcknaaGreatZ04
namespace Go.Proofs.YtpbclmnhkmcknaaGreat.Fe
open Go.RowKit
set_option maxRecDepth 100000

set_option maxHeartbeats 400000 in
theorem equal_any (a b : Option Addr) (n m c d : Nat) (la lb : List Nat) (w : World) (hA : Bys w a n la) (hB : Bys w b m lb) :
    Calls Tryz.prog 99 #[.slice a n c, .slice b m d] w fun e w' => e = .returned (.bool (sameB la lb)) ∧ w = w' := by
  have r1 := run_str hA c
  have r2 := run_str hB d
  have r3 := str_eq la lb hA.2.1 hB.2.1
  clear hA hB
  go_enter Tryz.func99, Tryz.ntmps99
  go_wp2
  go_ret
  exact ⟨rfl, rfl⟩

set_option maxRecDepth 100000 in
theorem setCells_evs (w : World) (g : Nat) (e : Note) (K D : Value) : w.setCells g 0 (evs e K D).toList = (((((((((((w.setCell ⟨g, 0, none⟩ (.int .i64 e.kind)).setCell ⟨g, 1, none⟩ (.int .u32 (e.epoch : Nat))).setCell ⟨g, 2, none⟩ (.int .u32 (e.old : Nat))).setCell ⟨g, 3, none⟩ (.int .u64 (e.lsn : Nat))).setCell ⟨g, 4, none⟩ (.int .u64 (e.tick : Nat))).setCell ⟨g, 5, none⟩ (.int .u32 (e.order : Nat))).setCell ⟨g, 6, none⟩ (.int .i64 e.step)).setCell ⟨g, 7, none⟩ (.bool e.undo)).setCell ⟨g, 8, none⟩ (.int .i64 e.code)).setCell ⟨g, 9, none⟩ (K)).setCell ⟨g, 10, none⟩ (D)) := rfl
theorem setCells_zero (w : World) (g : Nat) : w.setCells g 0 (evs Ent.zero nilV nilV).toList = (((((((((((w.setCell ⟨g, 0, none⟩ (.int .i64 0)).setCell ⟨g, 1, none⟩ (.int .u32 0)).setCell ⟨g, 2, none⟩ (.int .u32 0)).setCell ⟨g, 3, none⟩ (.int .u64 0)).setCell ⟨g, 4, none⟩ (.int .u64 0)).setCell ⟨g, 5, none⟩ (.int .u32 0)).setCell ⟨g, 6, none⟩ (.int .i64 0)).setCell ⟨g, 7, none⟩ (.bool false)).setCell ⟨g, 8, none⟩ (.int .i64 0)).setCell ⟨g, 9, none⟩ (.slice none 0 0)).setCell ⟨g, 10, none⟩ (.slice none 0 0)) := rfl

theorem Own.putsOther {w : World} {B : Nat} {v : Value} {l : List Nat} {b : Nat} (h : Own w B v l) (hb : some b ≠ v.ownBlock) (vs : List Value) (o : Nat) : Own (w.setCells b o vs) B v l := by
  induction vs generalizing w o with
  | nil => exact h
  | cons u r ih => exact ih (h.setOther (a := ⟨b, o, none⟩) hb u) (o + 1)

theorem results_cell_run {fn : Func} {p u : Tmp} {ty : TypeId} (h : fn.results = #[.cell p ty, .tmp u]) (tmps : Array Value) (w : World) (g : Nat) (cs : Array Value)
    (hp : tmps.getD p undef = .pointer (some ⟨g, 0, none⟩)) (hr : (loadVar ty ⟨g, 0, none⟩).run Tryz.prog w = .ok (.agg cs) w) :
    (results fn tmps).run Tryz.prog w = .ok (.tuple #[.agg cs, tmps.getD u undef]) w := by
  rw [results_cell_tmp h, hp]
  simp [asAddr, hr, Result.andThen]
set_option maxRecDepth 100000 in
theorem ret_E {fn : Func} {R : Ending → World → Prop} {a : Act} {w : World} {p u : Tmp} (g : Nat) (t : TypeId) (cs : Array Value) (h : fn.results = #[.cell p 55, .tmp u]) (hp : a.tmps.getD p undef = .pointer (some ⟨g, 0, none⟩)) (hg : Lies w g t cs) (hs : cs.size = 11) (hd : a.defers = [])
    (hR : R (.returned (.tuple #[.agg cs, a.tmps.getD u undef])) w) : bodyPost Tryz.prog fn R .ret a w :=
  bodyPost_ret (results_cell_run h _ _ g cs hp (run_loadVar_row w g t 55 cs (0, 0) _ hg Tryz.underlying55 rfl (by rw [hs]; kernel_rfl))) hd hR

end Go.Proofs.YtpbclmnhkmcknaaGreat.Fe

namespace Go.Proofs.YtpbclmnhkmcknaaGreat.Fe
open Go.RowKit
set_option maxRecDepth 100000
set_option linter.unusedVariables false

theorem results_cell1 {fn : Func} {p : Tmp} {ty : TypeId} (h : fn.results = #[.cell p ty]) (tmps : Array Value) (w : World) (g : Nat) (cs : Array Value)
    (hp : tmps.getD p undef = .pointer (some ⟨g, 0, none⟩)) (hr : (loadVar ty ⟨g, 0, none⟩).run Tryz.prog w = .ok (.agg cs) w) :
    (results fn tmps).run Tryz.prog w = .ok (.agg cs) w := by
  have hp' : tmps[p]?.getD undef = .pointer (some ⟨g, 0, none⟩) := by simpa using hp
  simp [results, h, hp', asAddr, hr]
theorem results_cell3 {fn : Func} {q p u : Tmp} {ty : TypeId} (h : fn.results = #[.tmp q, .cell p ty, .tmp u]) (tmps : Array Value) (w : World) (g : Nat) (cs : Array Value)
    (hp : tmps.getD p undef = .pointer (some ⟨g, 0, none⟩)) (hr : (loadVar ty ⟨g, 0, none⟩).run Tryz.prog w = .ok (.agg cs) w) :
    (results fn tmps).run Tryz.prog w = .ok (.tuple #[tmps.getD q undef, .agg cs, tmps.getD u undef]) w := by
  have hp' : tmps[p]?.getD undef = .pointer (some ⟨g, 0, none⟩) := by simpa using hp
  simp [results, h, hp', asAddr, hr]
theorem ret_key {fn : Func} {R : Ending → World → Prop} {a : Act} {w : World} {p : Tmp} (g : Nat) (t : TypeId) (cs : Array Value) (h : fn.results = #[.cell p 204]) (hp : a.tmps.getD p undef = .pointer (some ⟨g, 0, none⟩)) (hg : Lies w g t cs) (hs : cs.size = 3) (hd : a.defers = [])
    (hR : R (.returned (.agg cs)) w) : bodyPost Tryz.prog fn R .ret a w :=
  bodyPost_ret (results_cell1 h _ _ g cs hp (run_loadVar_row w g t 204 cs (0, 0) _ hg Tryz.underlying204 rfl (by rw [hs]; kernel_rfl))) hd hR
theorem ret_kept {fn : Func} {R : Ending → World → Prop} {a : Act} {w : World} {p : Tmp} (g : Nat) (t : TypeId) (cs : Array Value) (h : fn.results = #[.cell p 130]) (hp : a.tmps.getD p undef = .pointer (some ⟨g, 0, none⟩)) (hg : Lies w g t cs) (hs : cs.size = 6) (hd : a.defers = [])
    (hR : R (.returned (.agg cs)) w) : bodyPost Tryz.prog fn R .ret a w :=
  bodyPost_ret (results_cell1 h _ _ g cs hp (run_loadVar_row w g t 130 cs (0, 0) _ hg Tryz.underlying130 rfl (by rw [hs]; kernel_rfl))) hd hR
theorem ret_note {fn : Func} {R : Ending → World → Prop} {a : Act} {w : World} {p : Tmp} (g : Nat) (t : TypeId) (cs : Array Value) (h : fn.results = #[.cell p 55]) (hp : a.tmps.getD p undef = .pointer (some ⟨g, 0, none⟩)) (hg : Lies w g t cs) (hs : cs.size = 11) (hd : a.defers = [])
    (hR : R (.returned (.agg cs)) w) : bodyPost Tryz.prog fn R .ret a w :=
  bodyPost_ret (results_cell1 h _ _ g cs hp (run_loadVar_row w g t 55 cs (0, 0) _ hg Tryz.underlying55 rfl (by rw [hs]; kernel_rfl))) hd hR
theorem ret_fence1 {fn : Func} {R : Ending → World → Prop} {a : Act} {w : World} {p : Tmp} (g : Nat) (t : TypeId) (cs : Array Value) (h : fn.results = #[.cell p 64]) (hp : a.tmps.getD p undef = .pointer (some ⟨g, 0, none⟩)) (hg : Lies w g t cs) (hs : cs.size = 2) (hd : a.defers = [])
    (hR : R (.returned (.agg cs)) w) : bodyPost Tryz.prog fn R .ret a w :=
  bodyPost_ret (results_cell1 h _ _ g cs hp (run_loadVar_row w g t 64 cs (0, 0) _ hg Tryz.underlying64 rfl (by rw [hs]; kernel_rfl))) hd hR
theorem ret_keptB {fn : Func} {R : Ending → World → Prop} {a : Act} {w : World} {p u : Tmp} (g : Nat) (t : TypeId) (cs : Array Value) (h : fn.results = #[.cell p 130, .tmp u]) (hp : a.tmps.getD p undef = .pointer (some ⟨g, 0, none⟩)) (hg : Lies w g t cs) (hs : cs.size = 6) (hd : a.defers = [])
    (hR : R (.returned (.tuple #[.agg cs, a.tmps.getD u undef])) w) : bodyPost Tryz.prog fn R .ret a w :=
  bodyPost_ret (results_cell_run h _ _ g cs hp (run_loadVar_row w g t 130 cs (0, 0) _ hg Tryz.underlying130 rfl (by rw [hs]; kernel_rfl))) hd hR
theorem ret_fence {fn : Func} {R : Ending → World → Prop} {a : Act} {w : World} {p u : Tmp} (g : Nat) (t : TypeId) (cs : Array Value) (h : fn.results = #[.cell p 64, .tmp u]) (hp : a.tmps.getD p undef = .pointer (some ⟨g, 0, none⟩)) (hg : Lies w g t cs) (hs : cs.size = 2) (hd : a.defers = [])
    (hR : R (.returned (.tuple #[.agg cs, a.tmps.getD u undef])) w) : bodyPost Tryz.prog fn R .ret a w :=
  bodyPost_ret (results_cell_run h _ _ g cs hp (run_loadVar_row w g t 64 cs (0, 0) _ hg Tryz.underlying64 rfl (by rw [hs]; kernel_rfl))) hd hR
theorem ret_ask {fn : Func} {R : Ending → World → Prop} {a : Act} {w : World} {q p u : Tmp} (g : Nat) (t : TypeId) (cs : Array Value) (h : fn.results = #[.tmp q, .cell p 130, .tmp u]) (hp : a.tmps.getD p undef = .pointer (some ⟨g, 0, none⟩)) (hg : Lies w g t cs) (hs : cs.size = 6) (hd : a.defers = [])
    (hR : R (.returned (.tuple #[a.tmps.getD q undef, .agg cs, a.tmps.getD u undef])) w) : bodyPost Tryz.prog fn R .ret a w :=
  bodyPost_ret (results_cell3 h _ _ g cs hp (run_loadVar_row w g t 130 cs (0, 0) _ hg Tryz.underlying130 rfl (by rw [hs]; kernel_rfl))) hd hR

/-- What the walk leaves behind stores of whole structs. -/
abbrev put6 (w : World) (g : Nat) (a0 a1 a2 a3 a4 a5 : Value) : World := (((((w.setCell ⟨g, 0, none⟩ a0).setCell ⟨g, 1, none⟩ a1).setCell ⟨g, 2, none⟩ a2).setCell ⟨g, 3, none⟩ a3).setCell ⟨g, 4, none⟩ a4).setCell ⟨g, 5, none⟩ a5
abbrev put2 (w : World) (g : Nat) (a0 a1 : Value) : World := (w.setCell ⟨g, 0, none⟩ a0).setCell ⟨g, 1, none⟩ a1
theorem Lies.put6 {w : World} {g : Nat} {t : TypeId} {z0 z1 z2 z3 z4 z5 : Value} (h : Lies w g t #[z0, z1, z2, z3, z4, z5]) (a0 a1 a2 a3 a4 a5 : Value) : Lies (put6 w g a0 a1 a2 a3 a4 a5) g t #[a0, a1, a2, a3, a4, a5] := (((((h.put 0 a0).put 1 a1).put 2 a2).put 3 a3).put 4 a4).put 5 a5
theorem Lies.put2 {w : World} {g : Nat} {t : TypeId} {z0 z1 : Value} (h : Lies w g t #[z0, z1]) (a0 a1 : Value) : Lies (put2 w g a0 a1) g t #[a0, a1] := (h.put 0 a0).put 1 a1
theorem below_put6 {B g : Nat} {w0 w : World} (h : Below B w0 w) (hg : B ≤ g) (a0 a1 a2 a3 a4 a5 : Value) : Below B w0 (put6 w g a0 a1 a2 a3 a4 a5) := (((((h.setCell (p := ⟨g, 0, none⟩) hg a0).setCell (p := ⟨g, 1, none⟩) hg a1).setCell (p := ⟨g, 2, none⟩) hg a2).setCell (p := ⟨g, 3, none⟩) hg a3).setCell (p := ⟨g, 4, none⟩) hg a4).setCell (p := ⟨g, 5, none⟩) hg a5
theorem below_put2 {B g : Nat} {w0 w : World} (h : Below B w0 w) (hg : B ≤ g) (a0 a1 : Value) : Below B w0 (put2 w g a0 a1) := (h.setCell (p := ⟨g, 0, none⟩) hg a0).setCell (p := ⟨g, 1, none⟩) hg a1
theorem Lies.put6_other {w : World} {g g' : Nat} {t : TypeId} {cs : Array Value} (h : Lies w g t cs) (hn : g ≠ g') (a0 a1 a2 a3 a4 a5 : Value) : Lies (Go.Proofs.YtpbclmnhkmcknaaGreat.Fe.put6 w g' a0 a1 a2 a3 a4 a5) g t cs := (((((h.other (a := ⟨g', 0, none⟩) hn a0).other (a := ⟨g', 1, none⟩) hn a1).other (a := ⟨g', 2, none⟩) hn a2).other (a := ⟨g', 3, none⟩) hn a3).other (a := ⟨g', 4, none⟩) hn a4).other (a := ⟨g', 5, none⟩) hn a5
theorem Lies.cells6 {w : World} {g : Nat} {t : TypeId} {z0 z1 z2 z3 z4 z5 : Value} (h : Lies w g t #[z0, z1, z2, z3, z4, z5]) : w.cell? ⟨g, 0, none⟩ = some z0 ∧ w.cell? ⟨g, 1, none⟩ = some z1 ∧ w.cell? ⟨g, 2, none⟩ = some z2 ∧ w.cell? ⟨g, 3, none⟩ = some z3 ∧ w.cell? ⟨g, 4, none⟩ = some z4 ∧ w.cell? ⟨g, 5, none⟩ = some z5 := ⟨h.cell 0, h.cell 1, h.cell 2, h.cell 3, h.cell 4, h.cell 5⟩
theorem Lies.free6 {w : World} {g : Nat} {t : TypeId} {cs : Array Value} (h : Lies w g t cs) : w.frozen? ⟨g, 0, none⟩ = false ∧ w.frozen? ⟨g, 1, none⟩ = false ∧ w.frozen? ⟨g, 2, none⟩ = false ∧ w.frozen? ⟨g, 3, none⟩ = false ∧ w.frozen? ⟨g, 4, none⟩ = false ∧ w.frozen? ⟨g, 5, none⟩ = false := ⟨h.free 0, h.free 1, h.free 2, h.free 3, h.free 4, h.free 5⟩
theorem Lies.cells2 {w : World} {g : Nat} {t : TypeId} {z0 z1 : Value} (h : Lies w g t #[z0, z1]) : w.cell? ⟨g, 0, none⟩ = some z0 ∧ w.cell? ⟨g, 1, none⟩ = some z1 := ⟨h.cell 0, h.cell 1⟩
theorem Lies.free2 {w : World} {g : Nat} {t : TypeId} {cs : Array Value} (h : Lies w g t cs) : w.frozen? ⟨g, 0, none⟩ = false ∧ w.frozen? ⟨g, 1, none⟩ = false := ⟨h.free 0, h.free 1⟩
theorem Lies.cells3 {w : World} {g : Nat} {t : TypeId} {z0 z1 z2 : Value} (h : Lies w g t #[z0, z1, z2]) : w.cell? ⟨g, 0, none⟩ = some z0 ∧ w.cell? ⟨g, 1, none⟩ = some z1 ∧ w.cell? ⟨g, 2, none⟩ = some z2 := ⟨h.cell 0, h.cell 1, h.cell 2⟩
theorem Lies.free3 {w : World} {g : Nat} {t : TypeId} {cs : Array Value} (h : Lies w g t cs) : w.frozen? ⟨g, 0, none⟩ = false ∧ w.frozen? ⟨g, 1, none⟩ = false ∧ w.frozen? ⟨g, 2, none⟩ = false := ⟨h.free 0, h.free 1, h.free 2⟩

end Go.Proofs.YtpbclmnhkmcknaaGreat.Fe

namespace Go.Proofs.YtpbclmnhkmcknaaGreat.Fe
open Go.RowKit
set_option maxRecDepth 100000
set_option linter.unusedVariables false
set_option linter.unusedSimpArgs false

theorem nan32 (x : Int) (w : World) : Calls Tryz.prog 185 #[.int .u32 x] w fun e w' => e = .returned (.bool false) ∧ w = w' := by
  go_enter Tryz.func185, Tryz.ntmps185
  go_wp2
  go_ret
  exact ⟨rfl, rfl⟩
theorem nan64 (x : Int) (w : World) : Calls Tryz.prog 186 #[.int .i64 x] w fun e w' => e = .returned (.bool false) ∧ w = w' := by
  go_enter Tryz.func186, Tryz.ntmps186
  go_wp2
  go_ret
  exact ⟨rfl, rfl⟩
theorem nan8 (x : Int) (w : World) : Calls Tryz.prog 187 #[.int .u8 x] w fun e w' => e = .returned (.bool false) ∧ w = w' := by
  go_enter Tryz.func187, Tryz.ntmps187
  go_wp2
  go_ret
  exact ⟨rfl, rfl⟩
theorem cmp32 (x y : Nat) (w : World) : Calls Tryz.prog 148 #[.int .u32 (x : Int), .int .u32 (y : Int)] w fun e w' => e = .returned (.int .i64 (cmpI x y)) ∧ w = w' := by
  have C := Lib.hid nan32
  by_cases h : x < y
  · rw [cmpI_lt (x := x) (y := y) (by omega)]
    go_enter Tryz.func148, Tryz.ntmps148
    go_wp2_with fail
    with_reducible refine (C.out _ _).mono ?_
    rintro e w1 ⟨rfl, rfl⟩
    go_wp2_with fail
    with_reducible refine (C.out _ _).mono ?_
    rintro e w1 ⟨rfl, rfl⟩
    go_wp2
    go_ret
    exact ⟨rfl, rfl⟩
  · by_cases h2 : y < x
    · rw [cmpI_gt (x := x) (y := y) (by omega)]
      go_enter Tryz.func148, Tryz.ntmps148
      go_wp2_with fail
      with_reducible refine (C.out _ _).mono ?_
      rintro e w1 ⟨rfl, rfl⟩
      go_wp2_with fail
      with_reducible refine (C.out _ _).mono ?_
      rintro e w1 ⟨rfl, rfl⟩
      go_wp2
      go_ret
      exact ⟨rfl, rfl⟩
    · rw [cmpI_eq (x := x) (y := y) (by omega)]
      go_enter Tryz.func148, Tryz.ntmps148
      go_wp2_with fail
      with_reducible refine (C.out _ _).mono ?_
      rintro e w1 ⟨rfl, rfl⟩
      go_wp2_with fail
      with_reducible refine (C.out _ _).mono ?_
      rintro e w1 ⟨rfl, rfl⟩
      go_wp2
      go_ret
      exact ⟨rfl, rfl⟩
theorem cmp8 (x y : Nat) (w : World) : Calls Tryz.prog 150 #[.int .u8 (x : Int), .int .u8 (y : Int)] w fun e w' => e = .returned (.int .i64 (cmpI x y)) ∧ w = w' := by
  have C := Lib.hid nan8
  by_cases h : x < y
  · rw [cmpI_lt (x := x) (y := y) (by omega)]
    go_enter Tryz.func150, Tryz.ntmps150
    go_wp2_with fail
    with_reducible refine (C.out _ _).mono ?_
    rintro e w1 ⟨rfl, rfl⟩
    go_wp2_with fail
    with_reducible refine (C.out _ _).mono ?_
    rintro e w1 ⟨rfl, rfl⟩
    go_wp2
    go_ret
    exact ⟨rfl, rfl⟩
  · by_cases h2 : y < x
    · rw [cmpI_gt (x := x) (y := y) (by omega)]
      go_enter Tryz.func150, Tryz.ntmps150
      go_wp2_with fail
      with_reducible refine (C.out _ _).mono ?_
      rintro e w1 ⟨rfl, rfl⟩
      go_wp2_with fail
      with_reducible refine (C.out _ _).mono ?_
      rintro e w1 ⟨rfl, rfl⟩
      go_wp2
      go_ret
      exact ⟨rfl, rfl⟩
    · rw [cmpI_eq (x := x) (y := y) (by omega)]
      go_enter Tryz.func150, Tryz.ntmps150
      go_wp2_with fail
      with_reducible refine (C.out _ _).mono ?_
      rintro e w1 ⟨rfl, rfl⟩
      go_wp2_with fail
      with_reducible refine (C.out _ _).mono ?_
      rintro e w1 ⟨rfl, rfl⟩
      go_wp2
      go_ret
      exact ⟨rfl, rfl⟩
theorem cmp64 (x y : Int) (w : World) : Calls Tryz.prog 149 #[.int .i64 x, .int .i64 y] w fun e w' => e = .returned (.int .i64 (cmpI x y)) ∧ w = w' := by
  have C := Lib.hid nan64
  by_cases h : x < y
  · rw [cmpI_lt (x := x) (y := y) (by omega)]
    go_enter Tryz.func149, Tryz.ntmps149
    go_wp2_with fail
    with_reducible refine (C.out _ _).mono ?_
    rintro e w1 ⟨rfl, rfl⟩
    go_wp2_with fail
    with_reducible refine (C.out _ _).mono ?_
    rintro e w1 ⟨rfl, rfl⟩
    go_wp2
    go_ret
    exact ⟨rfl, rfl⟩
  · by_cases h2 : y < x
    · rw [cmpI_gt (x := x) (y := y) (by omega)]
      go_enter Tryz.func149, Tryz.ntmps149
      go_wp2_with fail
      with_reducible refine (C.out _ _).mono ?_
      rintro e w1 ⟨rfl, rfl⟩
      go_wp2_with fail
      with_reducible refine (C.out _ _).mono ?_
      rintro e w1 ⟨rfl, rfl⟩
      go_wp2
      go_ret
      exact ⟨rfl, rfl⟩
    · rw [cmpI_eq (x := x) (y := y) (by omega)]
      go_enter Tryz.func149, Tryz.ntmps149
      go_wp2_with fail
      with_reducible refine (C.out _ _).mono ?_
      rintro e w1 ⟨rfl, rfl⟩
      go_wp2_with fail
      with_reducible refine (C.out _ _).mono ?_
      rintro e w1 ⟨rfl, rfl⟩
      go_wp2
      go_ret
      exact ⟨rfl, rfl⟩
def OrR (x y z : Int) (w : World) (i : Value) (wr : World) : Prop := wr = w ∧ ∃ j : Nat, j ≤ 3 ∧ i = .int .i64 (j : Int) ∧ (0 < j → x = 0) ∧ (1 < j → y = 0) ∧ (2 < j → z = 0)
set_option maxHeartbeats 1000000 in
/-- cmp.Or of three numbers. -/
theorem or3 (g : Nat) (x y z : Int) (w : World) (h0 : w.cell? ⟨g, 0, none⟩ = some (.int .i64 x)) (h1 : w.cell? ⟨g, 1, none⟩ = some (.int .i64 y)) (h2 : w.cell? ⟨g, 2, none⟩ = some (.int .i64 z)) :
    Calls Tryz.prog 147 #[.slice (some ⟨g, 0, none⟩) 3 3] w fun e w' => e = .returned (.int .i64 (if x ≠ 0 then x else if y ≠ 0 then y else z)) ∧ w = w' := by
  go_enter Tryz.func147, Tryz.ntmps147
  go_wp2_with fail
  go_loopw [8] (OrR x y z w) (fun i _ => 3 - (intOf i).toNat)
  case atStart => exact ⟨rfl, 0, by omega, rfl, (fun h => by omega), (fun h => by omega), (fun h => by omega)⟩
  case round =>
    obtain ⟨rfl, j, hj, rfl, k0, k1, k2⟩ := hrel
    rcases j with _ | _ | _ | _ | j
    · clear k0 k1 k2
      by_cases a : x = 0
      · have A : (x == 0) = true := by simpa using a
        have HA := Lib.hid a
        clear a
        go_wp2
        go_roundw
        case rel => exact ⟨(by trivial), 1, by omega, rfl, (fun _ => HA.out), (fun h => by omega), (fun h => by omega)⟩
        case measure => simp [intOf]
      · have A : (x == 0) = false := by simpa using a
        have HA := Lib.hid a
        clear a
        go_wp2
        go_ret
        exact ⟨by first | rfl | exact ret_int (by simp [HA.out]), rfl⟩
    · have HX := Lib.hid (k0 (by omega))
      clear k0 k1 k2
      by_cases a : y = 0
      · have A : (y == 0) = true := by simpa using a
        have HA := Lib.hid a
        clear a
        go_wp2
        go_roundw
        case rel => exact ⟨(by trivial), 2, by omega, rfl, (fun _ => HX.out), (fun _ => HA.out), (fun h => by omega)⟩
        case measure => simp [intOf]
      · have A : (y == 0) = false := by simpa using a
        have HA := Lib.hid a
        clear a
        go_wp2
        go_ret
        exact ⟨by first | rfl | exact ret_int (by simp [HX.out, HA.out]), rfl⟩
    · have HX := Lib.hid (k0 (by omega))
      have HY := Lib.hid (k1 (by omega))
      clear k0 k1 k2
      by_cases a : z = 0
      · have A : (z == 0) = true := by simpa using a
        have HA := Lib.hid a
        clear a
        go_wp2
        go_roundw
        case rel => exact ⟨(by trivial), 3, by omega, rfl, (fun _ => HX.out), (fun _ => HY.out), (fun _ => HA.out)⟩
        case measure => simp [intOf]
      · have A : (z == 0) = false := by simpa using a
        have HA := Lib.hid a
        clear a
        go_wp2
        go_ret
        exact ⟨by first | rfl | exact ret_int (by simp [HX.out, HY.out]), rfl⟩
    · have HX := Lib.hid (k0 (by omega))
      have HY := Lib.hid (k1 (by omega))
      have HZ := Lib.hid (k2 (by omega))
      clear k0 k1 k2
      go_wp2
      go_ret
      exact ⟨by first | rfl | exact ret_int (by simp [HX.out, HY.out, HZ.out]), rfl⟩
    · omega

/-- A key's cells. -/
abbrev ky (o : Nat) (s : Int) (u : Bool) : Array Value := #[.int .u32 (o : Int), .int .i64 s, .bool u]
set_option maxHeartbeats 1000000 in
theorem keyOf_any (x : Kx) (w : World) : Calls Tryz.prog 127 #[.agg (kc x)] w fun e w' => e = .returned (.agg (ky x.k.o x.k.s x.k.u)) ∧ Below w.heap.size w w' := by
  go_enter Tryz.func127, Tryz.ntmps127
  go_wp2
  exact ret_key (w.heap.size + 1) 204 _ rfl rfl (Lies.made2 w _ 204 _) rfl rfl ⟨rfl, below2 w _ _⟩

theorem Lies.drew {w : World} {g : Nat} {t : TypeId} {cs : Array Value} (h : Lies w g t cs) : Lies w.drew g t cs := h
theorem below3 (w : World) (o p q : Obj) : Below w.heap.size w (((w.alloc o).alloc p).alloc q) := (below2 w o p).alloc (by simp; omega) q
set_option maxHeartbeats 4000000 in
theorem compareKeys_any (o o' : Nat) (s s' : Int) (u u' : Bool) (h1 : in64 s) (h2 : in64 s') (w : World) :
    Calls Tryz.prog 126 #[.agg (ky o s u), .agg (ky o' s' u')] w fun e w' => e = .returned (.int .i64 (cmpI (kn o s u) (kn o' s' u'))) ∧ Below w.heap.size w w' := by
  rw [cmpI_or h1 h2]
  have C1 := Lib.hid (fun W => cmp32 o o' W)
  have C2 := Lib.hid (fun W => cmp64 s s' W)
  have C3 := Lib.hid (fun W => cmp8 (Ent.b2n u) (Ent.b2n u') W)
  have C4 := Lib.hid (fun W => flag_any u W)
  have C5 := Lib.hid (fun W => flag_any u' W)
  generalize cmpI (o : Int) (o' : Int) = x at *
  generalize cmpI s s' = y at *
  generalize cmpI ((Ent.b2n u : Nat) : Int) ((Ent.b2n u' : Nat) : Int) = z at *
  generalize Ent.b2n u = f1 at *
  generalize Ent.b2n u' = f2 at *
  clear h1 h2
  have hb := below3 w (.cells (ky o s u) 204) (.cells (ky o' s' u') 204) (.cells #[.int .i64 x, .int .i64 y, .int .i64 z] 3)
  have HB := Lib.hid hb
  have L0 := Lies.made3 w (.cells (ky o s u) 204) (.cells (ky o' s' u') 204) 3 #[.int .i64 x, .int .i64 y, .int .i64 z]
  have CO := Lib.hid (or3 (w.heap.size + 1 + 1) x y z ((((w.alloc (.cells (ky o s u) 204)).alloc (.cells (ky o' s' u') 204)).alloc (.cells #[.int .i64 x, .int .i64 y, .int .i64 z] 3)).drew) (L0.cell 0) (L0.cell 1) (L0.cell 2))
  clear L0
  generalize (if x ≠ 0 then x else if y ≠ 0 then y else z) = q at *
  clear hb
  go_enter Tryz.func126, Tryz.ntmps126
  go_wp2_with fail
  go_region_held3 (fun W => W.cell? ⟨w.heap.size, 0, none⟩ = some (.int .u32 (o : Int)) ∧ W.cell? ⟨w.heap.size, 1, none⟩ = some (.int .i64 s) ∧ W.cell? ⟨w.heap.size, 2, none⟩ = some (.bool u) ∧ W.cell? ⟨w.heap.size + 1, 0, none⟩ = some (.int .u32 (o' : Int)) ∧ W.cell? ⟨w.heap.size + 1, 1, none⟩ = some (.int .i64 s') ∧ W.cell? ⟨w.heap.size + 1, 2, none⟩ = some (.bool u')) (first | go_keep)
    (first
    | (go_at_call 148; (with_reducible refine (C1.out _).mono ?_); (rintro e w1 ⟨rfl, rfl⟩))
    | (go_at_call 149; (with_reducible refine (C2.out _).mono ?_); (rintro e w1 ⟨rfl, rfl⟩))
    | (go_at_call 150; (with_reducible refine (C3.out _).mono ?_); (rintro e w1 ⟨rfl, rfl⟩))
    | (go_at_call 151; (with_reducible refine (C4.out _).mono ?_); (rintro e w1 ⟨rfl, rfl⟩))
    | (go_at_call 151; (with_reducible refine (C5.out _).mono ?_); (rintro e w1 ⟨rfl, rfl⟩))
    | (go_at_call 147; (with_reducible refine CO.out.mono ?_); (rintro e w1 ⟨rfl, rfl⟩)))
  go_wp2
  go_ret
  exact ⟨rfl, HB.out.drew⟩
set_option maxHeartbeats 4000000 in
theorem compareToKey_any (x : Kx) (o : Nat) (s : Int) (u : Bool) (h1 : in64 x.k.s) (h2 : in64 s) (w : World) :
    Calls Tryz.prog 134 #[.agg (kc x), .agg (ky o s u)] w fun e w' => e = .returned (.int .i64 (cmpI x.k.k (kn o s u))) ∧ Below w.heap.size w w' := by
  obtain ⟨⟨xo, xs, xu, xa, xc, xr⟩, K, D⟩ := x
  simp only at h1
  have C1 := Lib.hid (fun W => keyOf_any ⟨⟨xo, xs, xu, xa, xc, xr⟩, K, D⟩ W)
  have C2 := Lib.hid (fun W => compareKeys_any xo o xs s xu u h1 h2 W)
  have LA := Lib.hid ((Lies.made w 130 #[.int .u32 (xo : Int), .int .i64 xs, .bool xu, K, .int .i64 xc, D]).alloc (.cells (ky o s u) 204))
  have LB := Lib.hid (Lies.made2 w (.cells #[.int .u32 (xo : Int), .int .i64 xs, .bool xu, K, .int .i64 xc, D] 130) 204 (ky o s u))
  have HB := Lib.hid (below2 w (.cells #[.int .u32 (xo : Int), .int .i64 xs, .bool xu, K, .int .i64 xc, D] 130) (.cells (ky o s u) 204))
  clear h1 h2
  go_enter Tryz.func134, Tryz.ntmps134
  go_wp2_with fail
  go_region_held3 (fun W => W.cell? ⟨w.heap.size, 0, none⟩ = some (.int .u32 (xo : Int)) ∧ W.cell? ⟨w.heap.size, 1, none⟩ = some (.int .i64 xs) ∧ W.cell? ⟨w.heap.size, 2, none⟩ = some (.bool xu) ∧ W.cell? ⟨w.heap.size, 3, none⟩ = some K ∧ W.cell? ⟨w.heap.size, 4, none⟩ = some (.int .i64 xc) ∧ W.cell? ⟨w.heap.size, 5, none⟩ = some D ∧ W.cell? ⟨w.heap.size + 1, 0, none⟩ = some (.int .u32 (o : Int)) ∧ W.cell? ⟨w.heap.size + 1, 1, none⟩ = some (.int .i64 s) ∧ W.cell? ⟨w.heap.size + 1, 2, none⟩ = some (.bool u)) (first | go_keep | (obtain ⟨f0, f1, f2, f3, f4, f5⟩ := LA2.out.cells6; obtain ⟨g0, g1, g2⟩ := LB2.out.cells3; exact ⟨f0, f1, f2, f3, f4, f5, g0, g1, g2⟩) | (obtain ⟨f0, f1, f2, f3, f4, f5⟩ := LA1.out.cells6; obtain ⟨g0, g1, g2⟩ := LB1.out.cells3; exact ⟨f0, f1, f2, f3, f4, f5, g0, g1, g2⟩))
    (first
    | (go_at_call 127; (with_reducible refine (C1.out _).mono ?_); (rintro e w1 ⟨rfl, hb⟩); (have LA1 := Lib.hid (Lies.below (Lies.drew LA.out) hb (Lies.lt LA.out))); (have LB1 := Lib.hid (Lies.below (Lies.drew LB.out) hb (Lies.lt LB.out))); (have B1 := Lib.hid (HB.out.drew.trans (hb.mono HB.out.size))); clear hb)
    | (go_at_call 126; (with_reducible refine (C2.out _).mono ?_); (rintro e w2 ⟨rfl, hb⟩); (have LA2 := Lib.hid (Lies.below LA1.out hb (Lies.lt LA1.out))); (have LB2 := Lib.hid (Lies.below LB1.out hb (Lies.lt LB1.out))); (have B2 := Lib.hid (B1.out.trans (hb.mono B1.out.size))); clear hb))
  go_wp2
  go_ret
  exact ⟨rfl, B2.out⟩

end Go.Proofs.YtpbclmnhkmcknaaGreat.Fe

namespace Go.Proofs.YtpbclmnhkmcknaaGreat.Fe
open Go.RowKit
set_option maxRecDepth 100000
set_option linter.unusedVariables false
set_option linter.unusedSimpArgs false

theorem run_nil27 (a : Option Addr) (n c : Nat) (w : World) : (binOp .eql 22 (.slice a n c) (.slice none 0 0)).run Tryz.prog w = .ok (.bool a.isNone) w := by
  have h := run_equal_slice_nil (P := Tryz.prog) w 22 5 a n c Tryz.underlying22
  simp only [binOp, Sem.run_bind, h, Result.andThen_ok, Sem.run_pure]
theorem run_nil23 (a : Option Addr) (n c : Nat) (w : World) : (binOp .eql 62 (.slice a n c) (.slice none 0 0)).run Tryz.prog w = .ok (.bool a.isNone) w := by
  have h := run_equal_slice_nil (P := Tryz.prog) w 62 130 a n c Tryz.underlying62
  simp only [binOp, Sem.run_bind, h, Result.andThen_ok, Sem.run_pure]
theorem Own.zero (w : World) (B : Nat) (hB : B ≤ w.heap.size) : Own (w.alloc (.cells #[] 5)) B (.slice (some ⟨w.heap.size, 0, none⟩) 0 0) [] :=
  Own.made (l := []) (Lies.made w 5 _) hB (by simp) (by unfold maxLen; simp)
theorem OwnK.made0 (w : World) (B : Nat) (X : Nat → Kx) (hB : B ≤ w.heap.size) : OwnK (w.alloc (.cells #[] 130)) B (.slice (some ⟨w.heap.size, 0, none⟩) 0 0) 0 X :=
  World.ownsRow_made w #[] 0 hB (by unfold maxLen; omega) rfl
set_option maxHeartbeats 1000000 in
theorem bclone_any (a : Option Addr) (n cap : Nat) (l : List Nat) (w : World) (hB : Bys w a n l) (hA : a = none → cap = 0) (hn : n ≤ 1000000) :
    Calls Tryz.prog 74 #[.slice a n cap] w fun e w' => ∃ v, e = .returned v ∧ Own w' w.heap.size v l ∧ Below w.heap.size w w' := by
  rcases a with _ | ad
  · have hm : n = 0 := by
      refine Classical.byContradiction fun h0 => ?_
      obtain ⟨b, off, e, _⟩ := hB.2.2 (by omega)
      cases e
    have hl : l = [] := List.eq_nil_of_length_eq_zero (by rw [hB.1]; exact hm)
    have hc := hA rfl
    subst hm hl hc
    clear hB hA
    have hq := run_nil27 none 0 0
    rw [show (none : Option Addr).isNone = true from rfl] at hq
    go_enter Tryz.func74, Tryz.ntmps74
    go_wp2
    go_ret
    exact ⟨_, rfl, Own.nil _ _, Below.refl _ _⟩
  · have HT := Lib.hid (hB.alloc (.cells #[] 5))
    have HO := Lib.hid (Own.zero w w.heap.size (Nat.le_refl _))
    clear hB hA
    have hq := run_nil27 (some ad) n cap
    rw [show (some ad : Option Addr).isNone = false from rfl] at hq
    go_enter Tryz.func74, Tryz.ntmps74
    go_wp2_with (first
      | ((with_reducible refine wpl_append (some 7) _ _ _ (.tmp 5) (.tmp 6) w.heap.size _ [] (some ad) n cap l ?hs ?hx HO.out HT.out ?ha ?hm ?hz ?_); (case hs => rfl); (case hx => rfl); (case ha => (intro h; cases h)); (case hm => simpa using hn); (case hz => simp); (intro v' w' ho hg hv)))
    go_ret
    exact ⟨_, rfl, ho, HO.out.grows hg (below1 w _) (Nat.le_refl _) (by simp)⟩

/-- A kept step that a call has made. -/
def NewK (w : World) (B : Nat) (k : Kp) (y : Kx) : Prop := y.k = k ∧ Own w B y.K k.a ∧ Own w B y.D k.r
theorem NewK.below {w w' : World} {B : Nat} {k : Kp} {y : Kx} (h : NewK w B k y) (hb : Below w.heap.size w w') : NewK w' B k y := ⟨h.1, h.2.1.belowOwn hb, h.2.2.belowOwn hb⟩
theorem NewK.mono {w : World} {B B' : Nat} {k : Kp} {y : Kx} (h : NewK w B k y) (hb : B' ≤ B) : NewK w B' k y := ⟨h.1, h.2.1.mono hb, h.2.2.mono hb⟩
theorem Own.lies_put {w : World} {B : Nat} {v : Value} {l : List Nat} {g : Nat} {t : TypeId} {cs : Array Value} (h : Own w B v l) (hL : Lies w g t cs) (ht : t ≠ 5) (o : Nat) (u : Value) : Own (w.setCell ⟨g, o, none⟩ u) B v l := h.setOther (h.ne hL ht) u
theorem Own.put6 {w : World} {B : Nat} {v : Value} {l : List Nat} {g : Nat} {t : TypeId} {z0 z1 z2 z3 z4 z5 : Value} (h : Own w B v l) (hL : Lies w g t #[z0, z1, z2, z3, z4, z5]) (ht : t ≠ 5) (a0 a1 a2 a3 a4 a5 : Value) : Own (Go.Proofs.YtpbclmnhkmcknaaGreat.Fe.put6 w g a0 a1 a2 a3 a4 a5) B v l :=
  (((((h.lies_put hL ht 0 a0).lies_put (hL.put 0 a0) ht 1 a1).lies_put ((hL.put 0 a0).put 1 a1) ht 2 a2).lies_put (((hL.put 0 a0).put 1 a1).put 2 a2) ht 3 a3).lies_put ((((hL.put 0 a0).put 1 a1).put 2 a2).put 3 a3) ht 4 a4).lies_put (((((hL.put 0 a0).put 1 a1).put 2 a2).put 3 a3).put 4 a4) ht 5 a5
theorem Own.st6 {w : World} {B : Nat} {v : Value} {l : List Nat} {g o : Nat} {t : TypeId} {cs : Array Value} (h : Own w B v l) (hL : Lies w g t cs) (ht : t ≠ 5) (a0 a1 a2 a3 a4 a5 : Value) : Own (Go.Proofs.YtpbclmnhkmcknaaGreat.Fe.st6 w g o a0 a1 a2 a3 a4 a5) B v l :=
  (((((h.lies_put hL ht o a0).lies_put (hL.put o a0) ht (o + 1) a1).lies_put ((hL.put o a0).put (o + 1) a1) ht (o + 2) a2).lies_put (((hL.put o a0).put (o + 1) a1).put (o + 2) a2) ht (o + 3) a3).lies_put ((((hL.put o a0).put (o + 1) a1).put (o + 2) a2).put (o + 3) a3) ht (o + 4) a4).lies_put (((((hL.put o a0).put (o + 1) a1).put (o + 2) a2).put (o + 3) a3).put (o + 4) a4) ht (o + 5) a5
theorem OwnK.lies {w : World} {B b off c : Nat} {n : Nat} {X : Nat → Kx} (h : OwnK w B (.slice (some ⟨b, off, none⟩) n c) n X) : ∃ cs, Lies w b 130 cs := by
  rcases h.2 with ⟨h1, h2⟩ | ⟨g, cap, cur, hv, hb, hg, _⟩
  · cases h1
  · injection hv with q1 q2 q3
    injection q1 with q1
    injection q1 with q1 q4 _
    subst q1
    exact ⟨cur, hg⟩
set_option maxHeartbeats 4000000 in
theorem clone_any (x : Kx) (w : World) (hx : KT w x) (h1 : x.k.a.length ≤ 100000) (h2 : x.k.r.length ≤ 100000) :
    Calls Tryz.prog 105 #[.agg (kc x)] w fun e w' => ∃ y, e = .returned (.agg (kc y)) ∧ NewK w' w.heap.size x.k y ∧ Below w.heap.size w w' := by
  obtain ⟨A1, c1, e1, g1, _, _, k1⟩ := hx.a
  obtain ⟨A2, c2, e2, g2, _, _, k2⟩ := hx.r
  clear hx
  obtain ⟨⟨xo, xs, xu, xa, xc, xr⟩, xK, xD⟩ := x
  dsimp only at *
  subst e1 e2
  obtain ⟨n1, hn1⟩ : ∃ n1, xa.length = n1 := ⟨_, rfl⟩
  obtain ⟨n2, hn2⟩ : ∃ n2, xr.length = n2 := ⟨_, rfl⟩
  rw [hn1] at g1 h1 ⊢
  rw [hn2] at g2 h2 ⊢
  have HB := Lib.hid (below2 w (.cells #[.int .u32 (xo : Int), .int .i64 xs, .bool xu, .slice A1 n1 c1, .int .i64 xc, .slice A2 n2 c2] 130) (.cells #[.int .u32 0, .int .i64 0, .bool false, .slice none 0 0, .int .i64 0, .slice none 0 0] 130))
  have LX := Lib.hid ((Lies.made w 130 #[.int .u32 (xo : Int), .int .i64 xs, .bool xu, .slice A1 n1 c1, .int .i64 xc, .slice A2 n2 c2]).alloc (.cells #[.int .u32 0, .int .i64 0, .bool false, .slice none 0 0, .int .i64 0, .slice none 0 0] 130))
  have LR := Lib.hid (Lies.made2 w (.cells #[.int .u32 (xo : Int), .int .i64 xs, .bool xu, .slice A1 n1 c1, .int .i64 xc, .slice A2 n2 c2] 130) 130 #[.int .u32 0, .int .i64 0, .bool false, .slice none 0 0, .int .i64 0, .slice none 0 0])
  have C1 := Lib.hid (fun W (hb : Below w.heap.size w W) => bclone_any A1 n1 c1 xa W (g1.below hb) k1 (by omega))
  have C2 := Lib.hid (fun W (hb : Below w.heap.size w W) => bclone_any A2 n2 c2 xr W (g2.below hb) k2 (by omega))
  obtain ⟨q0, q1, q2, q3, q4, q5⟩ := LX.out.cells6
  obtain ⟨p0, p1, p2, p3, p4, p5⟩ := LX.out.free6
  clear g1 g2 k1 k2 hn1 hn2
  go_enter Tryz.func105, Tryz.ntmps105
  go_wp2_with fail
  go_region_with
    (first
    | (go_at_call 74; (with_reducible refine (C1.out _ HB.out.drew).mono ?_); (rintro e w1 ⟨v1, rfl, ho1, hb⟩); (obtain ⟨D1, d1, rfl, -, -, -, -⟩ := ho1.slice); (have O1 := Lib.hid ho1); (have B1 := Lib.hid (HB.out.drew.trans (hb.mono HB.out.size))); (have X1 := Lib.hid (Lies.below (Lies.drew LX.out) hb (Lies.lt LX.out))); (have R1 := Lib.hid (Lies.below (Lies.drew LR.out) hb (Lies.lt LR.out))); (clear ho1 hb q0 q1 q2 q3 q4 q5 p0 p1 p2 p3 p4 p5); (obtain ⟨q0, q1, q2, q3, q4, q5⟩ := X1.out.cells6); (obtain ⟨p0, p1, p2, p3, p4, p5⟩ := X1.out.free6))
    | (go_at_call 74; (with_reducible refine (C2.out _ B1.out).mono ?_); (rintro e w2 ⟨v2, rfl, ho2, hb⟩); (obtain ⟨D2, d2, rfl, -, -, -, -⟩ := ho2.slice); (have O2 := Lib.hid ho2); (have O12 := Lib.hid (O1.out.belowOwn hb)); (have B2 := Lib.hid (B1.out.trans (hb.mono B1.out.size))); (have X2 := Lib.hid (Lies.below X1.out hb (Lies.lt X1.out))); (have R2 := Lib.hid (Lies.below R1.out hb (Lies.lt R1.out))); (clear ho2 hb q0 q1 q2 q3 q4 q5 p0 p1 p2 p3 p4 p5); (obtain ⟨q0, q1, q2, q3, q4, q5⟩ := X2.out.cells6); (obtain ⟨p0, p1, p2, p3, p4, p5⟩ := X2.out.free6)))
  all_goals
    have L3 := Lib.hid ((X2.out.put 3 (.slice D1 xa.length d1)).put 5 (.slice D2 xr.length d2))
    have R3 := Lib.hid ((R2.out.other (a := ⟨w.heap.size, 3, none⟩) (by simp) (.slice D1 xa.length d1)).other (a := ⟨w.heap.size, 5, none⟩) (by simp) (.slice D2 xr.length d2))
    have B3 := Lib.hid ((B2.out.setCell (p := ⟨w.heap.size, 3, none⟩) (Nat.le_refl _) (.slice D1 xa.length d1)).setCell (p := ⟨w.heap.size, 5, none⟩) (Nat.le_refl _) (.slice D2 xr.length d2))
    have P1 := Lib.hid ((O12.out.lies_put X2.out (by decide) 3 (.slice D1 xa.length d1)).lies_put (X2.out.put 3 _) (by decide) 5 (.slice D2 xr.length d2))
    have P2 := Lib.hid ((O2.out.lies_put X2.out (by decide) 3 (.slice D1 xa.length d1)).lies_put (X2.out.put 3 _) (by decide) 5 (.slice D2 xr.length d2))
    clear q0 q1 q2 q3 q4 q5 p0 p1 p2 p3 p4 p5
    obtain ⟨q0, q1, q2, q3, q4, q5⟩ := Lies.cells6 (show Lies _ _ 130 #[_, _, _, _, _, _] from L3.out)
    obtain ⟨t0, t1, t2, t3, t4, t5⟩ := R3.out.cells6
    obtain ⟨p0, p1, p2, p3, p4, p5⟩ := R3.out.free6
    go_wp2
    refine ret_kept (w.heap.size + 1) 130 _ rfl rfl (R3.out.put6 _ _ _ _ _ _) rfl rfl ?_
    refine ⟨⟨⟨xo, xs, xu, xa, xc, xr⟩, .slice D1 xa.length d1, .slice D2 xr.length d2⟩, rfl, ⟨rfl, ?_, ?_⟩, below_put6 B3.out (Nat.le_succ _) _ _ _ _ _ _⟩
    · exact (P1.out.put6 R3.out (by decide) _ _ _ _ _ _).mono HB.out.size
    · exact (P2.out.put6 R3.out (by decide) _ _ _ _ _ _).mono B1.out.size

set_option maxHeartbeats 1000000 in
theorem sclone_any (A : Option Addr) (n c : Nat) (X : Nat → Kx) (w : World) (hK : Ks w A n X) (hnc : n ≤ c) (hA : A = none → c = 0) (hn : n ≤ 10000) :
    Calls Tryz.prog 129 #[.slice A n c] w fun e w' => ∃ v, e = .returned v ∧ OwnK w' w.heap.size v n X ∧ Below w.heap.size w w' := by
  rcases A with _ | ad
  · have hc := hA rfl
    subst hc
    have hm : n = 0 := by omega
    subst hm
    clear hK hA
    have hq := run_nil23 none 0 0
    rw [show (none : Option Addr).isNone = true from rfl] at hq
    go_enter Tryz.func129, Tryz.ntmps129
    go_wp2
    go_ret
    exact ⟨_, rfl, OwnK.nil _ _ _, Below.refl _ _⟩
  · have HT := Lib.hid (hK.below (below1 w (.cells #[] 130)))
    have HO := Lib.hid (OwnK.made0 w w.heap.size X (Nat.le_refl _))
    clear hK hA
    have hq := run_nil23 (some ad) n c
    rw [show (some ad : Option Addr).isNone = false from rfl] at hq
    go_enter Tryz.func129, Tryz.ntmps129
    go_wp2_with (first
      | ((with_reducible refine wpl_appendK (some 7) _ _ _ (.tmp 5) (.tmp 6) w.heap.size _ 0 X (some ad) n c X ?hs ?hx HO.out HT.out ?ha ?hm ?hz ?_); (case hs => rfl); (case hx => rfl); (case ha => (intro h; cases h)); (case hm => omega); (case hz => simp); (intro v' w' ho hg hv)))
    go_ret
    refine ⟨_, rfl, ?_, HO.out.grows hg (below1 w _) (Nat.le_refl _) (by simp)⟩
    have h2 := ho
    rw [Nat.zero_add] at h2
    exact h2.congr (fun i hi => by simp)

/-- The first j elements are copied. -/
def CaR (w : World) (n : Nat) (X : Nat → Kx) (v i : Value) (wr : World) : Prop :=
  ∃ (j : Nat) (Y : Nat → Kx), j ≤ n ∧ i = .int .i64 (j : Int) ∧ OwnK wr w.heap.size v n (fun k => if k < j then Y k else X k) ∧ (∀ k, k < j → NewK wr w.heap.size (X k).k (Y k)) ∧
    (∀ i k, i < j → k < i → (∀ g, (Y k).K.ownBlock = some g → (Y i).K.ownBlock ≠ some g) ∧ (∀ g, (Y k).D.ownBlock = some g → (Y i).D.ownBlock ≠ some g)) ∧ Below w.heap.size w wr
theorem fresh_ne {w w' : World} {B : Nat} {u v : Value} {l l' : List Nat} (h : Own w B u l) (h' : Own w' w.heap.size v l') : ∀ g, u.ownBlock = some g → v.ownBlock ≠ some g := fun g e e' => by
  have := h.lt g e
  have := h'.block g e'
  omega
theorem below_nodrew {B : Nat} {w w' : World} (h : Below B w w') : Below B w w' := h
set_option maxHeartbeats 8000000 in
theorem cloneAll_any (A : Option Addr) (n c : Nat) (X : Nat → Kx) (w : World) (hK : Ks w A n X) (hnc : n ≤ c) (hA : A = none → c = 0) (hn : n ≤ 10000) (hl : ∀ i, i < n → (X i).k.a.length ≤ 100000 ∧ (X i).k.r.length ≤ 100000) :
    Calls Tryz.prog 100 #[.slice A n c] w fun e w' => ∃ v Y, e = .returned v ∧ NF w' w.heap.size v n Y ∧ (∀ i, i < n → (Y i).k = (X i).k) ∧ Below w.heap.size w w' := by
  have CC := Lib.hid (sclone_any A n c X w hK hnc hA hn)
  have HK := Lib.hid hK
  have HL := Lib.hid hl
  clear hK hA hl hnc
  go_enter Tryz.func100, Tryz.ntmps100
  go_wp2_with fail
  with_reducible refine CC.out.mono ?_
  rintro e w1 ⟨v, rfl, ho, hb⟩
  obtain ⟨A', c', rfl, hnc', hcm, hA', hat⟩ := ho.slice
  have HO := Lib.hid ho
  have HB := Lib.hid hb
  have HAT := Lib.hid hat
  clear ho hb hat CC
  go_wp2_with fail
  go_loopw [8] (CaR w n X (.slice A' n c')) (fun i _ => n - (intOf i).toNat)
  case atStart => exact ⟨0, X, by omega, rfl, HO.out.congr (fun k hk => by simp), (fun k hk => by omega), (fun i k hi => by omega), HB.out⟩
  case round =>
    obtain ⟨j, Y, hj, rfl, hrow, hnew, hdis, hbel⟩ := hrel
    have ROW := Lib.hid hrow
    have NEW := Lib.hid hnew
    have DIS := Lib.hid hdis
    have BE := Lib.hid hbel
    clear hrow hnew hdis hbel
    by_cases hlt : j < n
    · obtain ⟨b, off, rfl, hoff, hbB, _⟩ := HAT.out (by omega)
      have HBB := Lib.hid hbB
      clear hoff hbB
      obtain ⟨⟨q0, q1, q2, q3, q4, q5⟩, f0, f1, f2, f3, f4, f5⟩ := ROW.out.at j hlt
      have hi : (j : Int) < (n : Int) := by omega
      have HKT := Lib.hid ((HK.out.below BE.out).2 j hlt)
      have CL := Lib.hid (fun (W : World) (hW : Below wr.heap.size wr W) => clone_any (X j) W (HKT.out.below hW) (HL.out j hlt).1 (HL.out j hlt).2)
      have CL0 := Lib.hid (CL.out _ (Below.refl _ _))
      obtain ⟨A1, c1, e1, _⟩ := HKT.out.a
      obtain ⟨A2, c2, e2, _⟩ := HKT.out.r
      rw [if_neg (Nat.lt_irrefl j)] at q0 q1 q2 q3 q4 q5
      have HXJ := Lib.hid (rfl : (X j).k = (X j).k)
      clear HKT CL
      rw [e1] at q3
      rw [e2] at q5
      generalize hxj : X j = x at *
      have HXE := Lib.hid hxj
      clear hxj
      obtain ⟨⟨xo, xs, xu, xa, xc, xr⟩, xK, xD⟩ := x
      dsimp only at *
      subst e1 e2
      go_wp2_with fail
      with_reducible refine CL0.out.mono ?_
      rintro e w2 ⟨y, rfl, hy, hb⟩
      have NY := Lib.hid hy
      have B2 := Lib.hid (BE.out.trans (hb.mono BE.out.size))
      have ROW2 := Lib.hid (ROW.out.belowT hb)
      have NEW2 := Lib.hid (fun k hk => (NEW.out k hk).below hb)
      have FR := Lib.hid (fun k (hk : k < j) => And.intro (fresh_ne (NEW.out k hk).2.1 hy.2.1) (fresh_ne (NEW.out k hk).2.2 hy.2.2))
      have BLE := Lib.hid BE.out.size
      clear hb hy q0 q1 q2 q3 q4 q5 f0 f1 f2 f3 f4 f5
      obtain ⟨⟨q0, q1, q2, q3, q4, q5⟩, f0, f1, f2, f3, f4, f5⟩ := ROW2.out.at j hlt
      obtain ⟨E1, d1, z1, _⟩ := NY.out.2.1.slice
      obtain ⟨E2, d2, z2, _⟩ := NY.out.2.2.slice
      have NYK := Lib.hid NY.out.1
      obtain ⟨yk, yK, yD⟩ := y
      dsimp only at *
      subst z1 z2
      have hyk := NYK.out
      subst hyk
      try dsimp only at *
      obtain ⟨rcs, hrl⟩ := ROW2.out.lies
      have RL := Lib.hid hrl
      clear hrl
      go_wp2
      go_roundw
      case rel =>
        refine ⟨j + 1, fun k => if k = j then ⟨⟨xo, xs, xu, xa, xc, xr⟩, .slice E1 xa.length d1, .slice E2 xr.length d2⟩ else Y k, by omega, by go_num, ?_, ?_, ?_, below_st6 B2.out HBB.out _ _ _ _ _ _⟩
        · refine (ROW2.out.set j hlt ⟨⟨xo, xs, xu, xa, xc, xr⟩, .slice E1 xa.length d1, .slice E2 xr.length d2⟩).congr (fun k hk => ?_)
          dsimp only
          by_cases e : k = j
          · subst e; simp
          · by_cases e2 : k < j
            · rw [if_neg e, if_pos e2, if_pos (by omega), if_neg e]
            · rw [if_neg e, if_neg e2, if_neg (by omega)]
        · intro k hk
          dsimp only
          by_cases e : k = j
          · subst e
            rw [if_pos rfl, HXE.out]
            exact ⟨rfl, (NY.out.2.1.mono BLE.out).st6 RL.out (by decide) _ _ _ _ _ _, (NY.out.2.2.mono BLE.out).st6 RL.out (by decide) _ _ _ _ _ _⟩
          · rw [if_neg e]
            have h := NEW2.out k (by omega)
            exact ⟨h.1, h.2.1.st6 RL.out (by decide) _ _ _ _ _ _, h.2.2.st6 RL.out (by decide) _ _ _ _ _ _⟩
        · intro i k hi hk
          dsimp only
          rw [if_neg (show ¬ k = j by omega)]
          by_cases e : i = j
          · subst e
            rw [if_pos rfl]
            exact FR.out k hk
          · rw [if_neg e]
            exact DIS.out i k (by omega) hk
      case measure => simp [intOf]; omega
    · have hjn : j = n := by omega
      subst hjn
      go_wp2
      go_ret
      refine ⟨_, Y, rfl, ⟨ROW.out.congr (fun k hk => by rw [if_pos hk]), fun i hi => ?_, fun i hi => ?_, fun i hi => ?_, fun i k hi hk => (DIS.out i k hi hk).1, fun i k hi hk => (DIS.out i k hi hk).2⟩, fun i hi => (NEW.out i hi).1, BE.out⟩
      · rw [(NEW.out i hi).1]; exact (NEW.out i hi).2.1
      · rw [(NEW.out i hi).1]; exact (NEW.out i hi).2.2
      · have := HK.out.2 i hi
        rw [(NEW.out i hi).1]; exact ⟨this.o, this.s, this.c⟩

end Go.Proofs.YtpbclmnhkmcknaaGreat.Fe
