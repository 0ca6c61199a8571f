/-
  Texts of one proof, in their order: FeKRet, FeCmp.
-/
import Derived.Laws.ResultCell
import Derived.Deep.RegionHeld3
import Derived.Deep.DrawnRows
import Derived.Test.YtpbclmnhkmcknaaGreatB02
namespace Go.Proofs.YtpbclmnhkmcknaaGreat.Fe
open Go.RowKit
set_option maxRecDepth 100000
set_option linter.unusedVariables false

theorem results_cell1 {fn : Func} {p : Tmp} {ty : TypeId} (h : fn.results = #[.cell p ty]) (tmps : Array Value) (w : World) (g : Nat) (cs : Array Value)
    (hp : tmps.getD p undef = .pointer (some ⟨g, 0, none⟩)) (hr : (loadVar ty ⟨g, 0, none⟩).run Tryz.prog w = .ok (.agg cs) w) :
    (results fn tmps).run Tryz.prog w = .ok (.agg cs) w := by
  have hp' : tmps[p]?.getD undef = .pointer (some ⟨g, 0, none⟩) := by simpa using hp
  simp [results, h, hp', asAddr, hr]
theorem results_cell3 {fn : Func} {q p u : Tmp} {ty : TypeId} (h : fn.results = #[.tmp q, .cell p ty, .tmp u]) (tmps : Array Value) (w : World) (g : Nat) (cs : Array Value)
    (hp : tmps.getD p undef = .pointer (some ⟨g, 0, none⟩)) (hr : (loadVar ty ⟨g, 0, none⟩).run Tryz.prog w = .ok (.agg cs) w) :
    (results fn tmps).run Tryz.prog w = .ok (.tuple #[tmps.getD q undef, .agg cs, tmps.getD u undef]) w := by
  have hp' : tmps[p]?.getD undef = .pointer (some ⟨g, 0, none⟩) := by simpa using hp
  simp [results, h, hp', asAddr, hr]
theorem ret_key {fn : Func} {R : Ending → World → Prop} {a : Act} {w : World} {p : Tmp} (g : Nat) (t : TypeId) (cs : Array Value) (h : fn.results = #[.cell p 204]) (hp : a.tmps.getD p undef = .pointer (some ⟨g, 0, none⟩)) (hg : Lies w g t cs) (hs : cs.size = 3) (hd : a.defers = [])
    (hR : R (.returned (.agg cs)) w) : bodyPost Tryz.prog fn R .ret a w :=
  bodyPost_ret (results_cell1 h _ _ g cs hp (run_loadVar_row w g t 204 cs (0, 0) _ hg Tryz.underlying204 rfl (by rw [hs]; kernel_rfl))) hd hR
theorem ret_kept {fn : Func} {R : Ending → World → Prop} {a : Act} {w : World} {p : Tmp} (g : Nat) (t : TypeId) (cs : Array Value) (h : fn.results = #[.cell p 130]) (hp : a.tmps.getD p undef = .pointer (some ⟨g, 0, none⟩)) (hg : Lies w g t cs) (hs : cs.size = 6) (hd : a.defers = [])
    (hR : R (.returned (.agg cs)) w) : bodyPost Tryz.prog fn R .ret a w :=
  bodyPost_ret (results_cell1 h _ _ g cs hp (run_loadVar_row w g t 130 cs (0, 0) _ hg Tryz.underlying130 rfl (by rw [hs]; kernel_rfl))) hd hR
theorem ret_note {fn : Func} {R : Ending → World → Prop} {a : Act} {w : World} {p : Tmp} (g : Nat) (t : TypeId) (cs : Array Value) (h : fn.results = #[.cell p 55]) (hp : a.tmps.getD p undef = .pointer (some ⟨g, 0, none⟩)) (hg : Lies w g t cs) (hs : cs.size = 11) (hd : a.defers = [])
    (hR : R (.returned (.agg cs)) w) : bodyPost Tryz.prog fn R .ret a w :=
  bodyPost_ret (results_cell1 h _ _ g cs hp (run_loadVar_row w g t 55 cs (0, 0) _ hg Tryz.underlying55 rfl (by rw [hs]; kernel_rfl))) hd hR
theorem ret_keptB {fn : Func} {R : Ending → World → Prop} {a : Act} {w : World} {p u : Tmp} (g : Nat) (t : TypeId) (cs : Array Value) (h : fn.results = #[.cell p 130, .tmp u]) (hp : a.tmps.getD p undef = .pointer (some ⟨g, 0, none⟩)) (hg : Lies w g t cs) (hs : cs.size = 6) (hd : a.defers = [])
    (hR : R (.returned (.tuple #[.agg cs, a.tmps.getD u undef])) w) : bodyPost Tryz.prog fn R .ret a w :=
  bodyPost_ret (results_cell_run h _ _ g cs hp (run_loadVar_row w g t 130 cs (0, 0) _ hg Tryz.underlying130 rfl (by rw [hs]; kernel_rfl))) hd hR
theorem ret_fence {fn : Func} {R : Ending → World → Prop} {a : Act} {w : World} {p u : Tmp} (g : Nat) (t : TypeId) (cs : Array Value) (h : fn.results = #[.cell p 64, .tmp u]) (hp : a.tmps.getD p undef = .pointer (some ⟨g, 0, none⟩)) (hg : Lies w g t cs) (hs : cs.size = 2) (hd : a.defers = [])
    (hR : R (.returned (.tuple #[.agg cs, a.tmps.getD u undef])) w) : bodyPost Tryz.prog fn R .ret a w :=
  bodyPost_ret (results_cell_run h _ _ g cs hp (run_loadVar_row w g t 64 cs (0, 0) _ hg Tryz.underlying64 rfl (by rw [hs]; kernel_rfl))) hd hR
theorem ret_ask {fn : Func} {R : Ending → World → Prop} {a : Act} {w : World} {q p u : Tmp} (g : Nat) (t : TypeId) (cs : Array Value) (h : fn.results = #[.tmp q, .cell p 130, .tmp u]) (hp : a.tmps.getD p undef = .pointer (some ⟨g, 0, none⟩)) (hg : Lies w g t cs) (hs : cs.size = 6) (hd : a.defers = [])
    (hR : R (.returned (.tuple #[a.tmps.getD q undef, .agg cs, a.tmps.getD u undef])) w) : bodyPost Tryz.prog fn R .ret a w :=
  bodyPost_ret (results_cell3 h _ _ g cs hp (run_loadVar_row w g t 130 cs (0, 0) _ hg Tryz.underlying130 rfl (by rw [hs]; kernel_rfl))) hd hR

/-- What the walk leaves behind stores of whole structs. -/
abbrev put6 (w : World) (g : Nat) (a0 a1 a2 a3 a4 a5 : Value) : World := (((((w.setCell ⟨g, 0, none⟩ a0).setCell ⟨g, 1, none⟩ a1).setCell ⟨g, 2, none⟩ a2).setCell ⟨g, 3, none⟩ a3).setCell ⟨g, 4, none⟩ a4).setCell ⟨g, 5, none⟩ a5
abbrev put2 (w : World) (g : Nat) (a0 a1 : Value) : World := (w.setCell ⟨g, 0, none⟩ a0).setCell ⟨g, 1, none⟩ a1
theorem Lies.put6 {w : World} {g : Nat} {t : TypeId} {z0 z1 z2 z3 z4 z5 : Value} (h : Lies w g t #[z0, z1, z2, z3, z4, z5]) (a0 a1 a2 a3 a4 a5 : Value) : Lies (put6 w g a0 a1 a2 a3 a4 a5) g t #[a0, a1, a2, a3, a4, a5] := (((((h.put 0 a0).put 1 a1).put 2 a2).put 3 a3).put 4 a4).put 5 a5
theorem Lies.put2 {w : World} {g : Nat} {t : TypeId} {z0 z1 : Value} (h : Lies w g t #[z0, z1]) (a0 a1 : Value) : Lies (put2 w g a0 a1) g t #[a0, a1] := (h.put 0 a0).put 1 a1
theorem below_put6 {B g : Nat} {w0 w : World} (h : Below B w0 w) (hg : B ≤ g) (a0 a1 a2 a3 a4 a5 : Value) : Below B w0 (put6 w g a0 a1 a2 a3 a4 a5) := (((((h.setCell (p := ⟨g, 0, none⟩) hg a0).setCell (p := ⟨g, 1, none⟩) hg a1).setCell (p := ⟨g, 2, none⟩) hg a2).setCell (p := ⟨g, 3, none⟩) hg a3).setCell (p := ⟨g, 4, none⟩) hg a4).setCell (p := ⟨g, 5, none⟩) hg a5
theorem below_put2 {B g : Nat} {w0 w : World} (h : Below B w0 w) (hg : B ≤ g) (a0 a1 : Value) : Below B w0 (put2 w g a0 a1) := (h.setCell (p := ⟨g, 0, none⟩) hg a0).setCell (p := ⟨g, 1, none⟩) hg a1
theorem Lies.put6_other {w : World} {g g' : Nat} {t : TypeId} {cs : Array Value} (h : Lies w g t cs) (hn : g ≠ g') (a0 a1 a2 a3 a4 a5 : Value) : Lies (Go.Proofs.YtpbclmnhkmcknaaGreat.Fe.put6 w g' a0 a1 a2 a3 a4 a5) g t cs := (((((h.other (a := ⟨g', 0, none⟩) hn a0).other (a := ⟨g', 1, none⟩) hn a1).other (a := ⟨g', 2, none⟩) hn a2).other (a := ⟨g', 3, none⟩) hn a3).other (a := ⟨g', 4, none⟩) hn a4).other (a := ⟨g', 5, none⟩) hn a5
theorem Lies.cells6 {w : World} {g : Nat} {t : TypeId} {z0 z1 z2 z3 z4 z5 : Value} (h : Lies w g t #[z0, z1, z2, z3, z4, z5]) : w.cell? ⟨g, 0, none⟩ = some z0 ∧ w.cell? ⟨g, 1, none⟩ = some z1 ∧ w.cell? ⟨g, 2, none⟩ = some z2 ∧ w.cell? ⟨g, 3, none⟩ = some z3 ∧ w.cell? ⟨g, 4, none⟩ = some z4 ∧ w.cell? ⟨g, 5, none⟩ = some z5 := ⟨h.cell 0, h.cell 1, h.cell 2, h.cell 3, h.cell 4, h.cell 5⟩
theorem Lies.free6 {w : World} {g : Nat} {t : TypeId} {cs : Array Value} (h : Lies w g t cs) : w.frozen? ⟨g, 0, none⟩ = false ∧ w.frozen? ⟨g, 1, none⟩ = false ∧ w.frozen? ⟨g, 2, none⟩ = false ∧ w.frozen? ⟨g, 3, none⟩ = false ∧ w.frozen? ⟨g, 4, none⟩ = false ∧ w.frozen? ⟨g, 5, none⟩ = false := ⟨h.free 0, h.free 1, h.free 2, h.free 3, h.free 4, h.free 5⟩
theorem Lies.cells2 {w : World} {g : Nat} {t : TypeId} {z0 z1 : Value} (h : Lies w g t #[z0, z1]) : w.cell? ⟨g, 0, none⟩ = some z0 ∧ w.cell? ⟨g, 1, none⟩ = some z1 := ⟨h.cell 0, h.cell 1⟩
theorem Lies.free2 {w : World} {g : Nat} {t : TypeId} {cs : Array Value} (h : Lies w g t cs) : w.frozen? ⟨g, 0, none⟩ = false ∧ w.frozen? ⟨g, 1, none⟩ = false := ⟨h.free 0, h.free 1⟩
theorem Lies.cells3 {w : World} {g : Nat} {t : TypeId} {z0 z1 z2 : Value} (h : Lies w g t #[z0, z1, z2]) : w.cell? ⟨g, 0, none⟩ = some z0 ∧ w.cell? ⟨g, 1, none⟩ = some z1 ∧ w.cell? ⟨g, 2, none⟩ = some z2 := ⟨h.cell 0, h.cell 1, h.cell 2⟩
theorem Lies.free3 {w : World} {g : Nat} {t : TypeId} {cs : Array Value} (h : Lies w g t cs) : w.frozen? ⟨g, 0, none⟩ = false ∧ w.frozen? ⟨g, 1, none⟩ = false ∧ w.frozen? ⟨g, 2, none⟩ = false := ⟨h.free 0, h.free 1, h.free 2⟩

end Go.Proofs.YtpbclmnhkmcknaaGreat.Fe

namespace Go.Proofs.YtpbclmnhkmcknaaGreat.Fe
open Go.RowKit
set_option maxRecDepth 100000
set_option linter.unusedVariables false
set_option linter.unusedSimpArgs false

theorem nan32 (x : Int) (w : World) : Calls Tryz.prog 185 #[.int .u32 x] w fun e w' => e = .returned (.bool false) ∧ w = w' := by
  go_enter Tryz.func185, Tryz.ntmps185
  go_wp2
  go_ret
  exact ⟨rfl, rfl⟩
theorem nan64 (x : Int) (w : World) : Calls Tryz.prog 186 #[.int .i64 x] w fun e w' => e = .returned (.bool false) ∧ w = w' := by
  go_enter Tryz.func186, Tryz.ntmps186
  go_wp2
  go_ret
  exact ⟨rfl, rfl⟩
theorem nan8 (x : Int) (w : World) : Calls Tryz.prog 187 #[.int .u8 x] w fun e w' => e = .returned (.bool false) ∧ w = w' := by
  go_enter Tryz.func187, Tryz.ntmps187
  go_wp2
  go_ret
  exact ⟨rfl, rfl⟩
theorem cmp32 (x y : Nat) (w : World) : Calls Tryz.prog 148 #[.int .u32 (x : Int), .int .u32 (y : Int)] w fun e w' => e = .returned (.int .i64 (cmpI x y)) ∧ w = w' := by
  have C := Lib.hid nan32
  by_cases h : x < y
  · rw [cmpI_lt (x := x) (y := y) (by omega)]
    go_enter Tryz.func148, Tryz.ntmps148
    go_wp2_with fail
    with_reducible refine (C.out _ _).mono ?_
    rintro e w1 ⟨rfl, rfl⟩
    go_wp2_with fail
    with_reducible refine (C.out _ _).mono ?_
    rintro e w1 ⟨rfl, rfl⟩
    go_wp2
    go_ret
    exact ⟨rfl, rfl⟩
  · by_cases h2 : y < x
    · rw [cmpI_gt (x := x) (y := y) (by omega)]
      go_enter Tryz.func148, Tryz.ntmps148
      go_wp2_with fail
      with_reducible refine (C.out _ _).mono ?_
      rintro e w1 ⟨rfl, rfl⟩
      go_wp2_with fail
      with_reducible refine (C.out _ _).mono ?_
      rintro e w1 ⟨rfl, rfl⟩
      go_wp2
      go_ret
      exact ⟨rfl, rfl⟩
    · rw [cmpI_eq (x := x) (y := y) (by omega)]
      go_enter Tryz.func148, Tryz.ntmps148
      go_wp2_with fail
      with_reducible refine (C.out _ _).mono ?_
      rintro e w1 ⟨rfl, rfl⟩
      go_wp2_with fail
      with_reducible refine (C.out _ _).mono ?_
      rintro e w1 ⟨rfl, rfl⟩
      go_wp2
      go_ret
      exact ⟨rfl, rfl⟩
theorem cmp8 (x y : Nat) (w : World) : Calls Tryz.prog 150 #[.int .u8 (x : Int), .int .u8 (y : Int)] w fun e w' => e = .returned (.int .i64 (cmpI x y)) ∧ w = w' := by
  have C := Lib.hid nan8
  by_cases h : x < y
  · rw [cmpI_lt (x := x) (y := y) (by omega)]
    go_enter Tryz.func150, Tryz.ntmps150
    go_wp2_with fail
    with_reducible refine (C.out _ _).mono ?_
    rintro e w1 ⟨rfl, rfl⟩
    go_wp2_with fail
    with_reducible refine (C.out _ _).mono ?_
    rintro e w1 ⟨rfl, rfl⟩
    go_wp2
    go_ret
    exact ⟨rfl, rfl⟩
  · by_cases h2 : y < x
    · rw [cmpI_gt (x := x) (y := y) (by omega)]
      go_enter Tryz.func150, Tryz.ntmps150
      go_wp2_with fail
      with_reducible refine (C.out _ _).mono ?_
      rintro e w1 ⟨rfl, rfl⟩
      go_wp2_with fail
      with_reducible refine (C.out _ _).mono ?_
      rintro e w1 ⟨rfl, rfl⟩
      go_wp2
      go_ret
      exact ⟨rfl, rfl⟩
    · rw [cmpI_eq (x := x) (y := y) (by omega)]
      go_enter Tryz.func150, Tryz.ntmps150
      go_wp2_with fail
      with_reducible refine (C.out _ _).mono ?_
      rintro e w1 ⟨rfl, rfl⟩
      go_wp2_with fail
      with_reducible refine (C.out _ _).mono ?_
      rintro e w1 ⟨rfl, rfl⟩
      go_wp2
      go_ret
      exact ⟨rfl, rfl⟩
theorem cmp64 (x y : Int) (w : World) : Calls Tryz.prog 149 #[.int .i64 x, .int .i64 y] w fun e w' => e = .returned (.int .i64 (cmpI x y)) ∧ w = w' := by
  have C := Lib.hid nan64
  by_cases h : x < y
  · rw [cmpI_lt (x := x) (y := y) (by omega)]
    go_enter Tryz.func149, Tryz.ntmps149
    go_wp2_with fail
    with_reducible refine (C.out _ _).mono ?_
    rintro e w1 ⟨rfl, rfl⟩
    go_wp2_with fail
    with_reducible refine (C.out _ _).mono ?_
    rintro e w1 ⟨rfl, rfl⟩
    go_wp2
    go_ret
    exact ⟨rfl, rfl⟩
  · by_cases h2 : y < x
    · rw [cmpI_gt (x := x) (y := y) (by omega)]
      go_enter Tryz.func149, Tryz.ntmps149
      go_wp2_with fail
      with_reducible refine (C.out _ _).mono ?_
      rintro e w1 ⟨rfl, rfl⟩
      go_wp2_with fail
      with_reducible refine (C.out _ _).mono ?_
      rintro e w1 ⟨rfl, rfl⟩
      go_wp2
      go_ret
      exact ⟨rfl, rfl⟩
    · rw [cmpI_eq (x := x) (y := y) (by omega)]
      go_enter Tryz.func149, Tryz.ntmps149
      go_wp2_with fail
      with_reducible refine (C.out _ _).mono ?_
      rintro e w1 ⟨rfl, rfl⟩
      go_wp2_with fail
      with_reducible refine (C.out _ _).mono ?_
      rintro e w1 ⟨rfl, rfl⟩
      go_wp2
      go_ret
      exact ⟨rfl, rfl⟩
def OrR (x y z : Int) (w : World) (i : Value) (wr : World) : Prop := wr = w ∧ ∃ j : Nat, j ≤ 3 ∧ i = .int .i64 (j : Int) ∧ (0 < j → x = 0) ∧ (1 < j → y = 0) ∧ (2 < j → z = 0)
set_option maxHeartbeats 1000000 in
/-- cmp.Or of three numbers. -/
theorem or3 (g : Nat) (x y z : Int) (w : World) (h0 : w.cell? ⟨g, 0, none⟩ = some (.int .i64 x)) (h1 : w.cell? ⟨g, 1, none⟩ = some (.int .i64 y)) (h2 : w.cell? ⟨g, 2, none⟩ = some (.int .i64 z)) :
    Calls Tryz.prog 147 #[.slice (some ⟨g, 0, none⟩) 3 3] w fun e w' => e = .returned (.int .i64 (if x ≠ 0 then x else if y ≠ 0 then y else z)) ∧ w = w' := by
  go_enter Tryz.func147, Tryz.ntmps147
  go_wp2_with fail
  go_loopw [8] (OrR x y z w) (fun i _ => 3 - (intOf i).toNat)
  case atStart => exact ⟨rfl, 0, by omega, rfl, (fun h => by omega), (fun h => by omega), (fun h => by omega)⟩
  case round =>
    obtain ⟨rfl, j, hj, rfl, k0, k1, k2⟩ := hrel
    rcases j with _ | _ | _ | _ | j
    · clear k0 k1 k2
      by_cases a : x = 0
      · have A : (x == 0) = true := by simpa using a
        have HA := Lib.hid a
        clear a
        go_wp2
        go_roundw
        case rel => exact ⟨(by trivial), 1, by omega, rfl, (fun _ => HA.out), (fun h => by omega), (fun h => by omega)⟩
        case measure => simp [intOf]
      · have A : (x == 0) = false := by simpa using a
        have HA := Lib.hid a
        clear a
        go_wp2
        go_ret
        exact ⟨by first | rfl | exact ret_int (by simp [HA.out]), rfl⟩
    · have HX := Lib.hid (k0 (by omega))
      clear k0 k1 k2
      by_cases a : y = 0
      · have A : (y == 0) = true := by simpa using a
        have HA := Lib.hid a
        clear a
        go_wp2
        go_roundw
        case rel => exact ⟨(by trivial), 2, by omega, rfl, (fun _ => HX.out), (fun _ => HA.out), (fun h => by omega)⟩
        case measure => simp [intOf]
      · have A : (y == 0) = false := by simpa using a
        have HA := Lib.hid a
        clear a
        go_wp2
        go_ret
        exact ⟨by first | rfl | exact ret_int (by simp [HX.out, HA.out]), rfl⟩
    · have HX := Lib.hid (k0 (by omega))
      have HY := Lib.hid (k1 (by omega))
      clear k0 k1 k2
      by_cases a : z = 0
      · have A : (z == 0) = true := by simpa using a
        have HA := Lib.hid a
        clear a
        go_wp2
        go_roundw
        case rel => exact ⟨(by trivial), 3, by omega, rfl, (fun _ => HX.out), (fun _ => HY.out), (fun _ => HA.out)⟩
        case measure => simp [intOf]
      · have A : (z == 0) = false := by simpa using a
        have HA := Lib.hid a
        clear a
        go_wp2
        go_ret
        exact ⟨by first | rfl | exact ret_int (by simp [HX.out, HY.out]), rfl⟩
    · have HX := Lib.hid (k0 (by omega))
      have HY := Lib.hid (k1 (by omega))
      have HZ := Lib.hid (k2 (by omega))
      clear k0 k1 k2
      go_wp2
      go_ret
      exact ⟨by first | rfl | exact ret_int (by simp [HX.out, HY.out, HZ.out]), rfl⟩
    · omega

/-- A key's cells. -/
abbrev ky (o : Nat) (s : Int) (u : Bool) : Array Value := #[.int .u32 (o : Int), .int .i64 s, .bool u]
set_option maxHeartbeats 1000000 in
theorem keyOf_any (x : Kx) (w : World) : Calls Tryz.prog 127 #[.agg (kc x)] w fun e w' => e = .returned (.agg (ky x.k.o x.k.s x.k.u)) ∧ Below w.heap.size w w' := by
  go_enter Tryz.func127, Tryz.ntmps127
  go_wp2
  exact ret_key (w.heap.size + 1) 204 _ rfl rfl (Lies.made2 w _ 204 _) rfl rfl ⟨rfl, below2 w _ _⟩

theorem Lies.drew {w : World} {g : Nat} {t : TypeId} {cs : Array Value} (h : Lies w g t cs) : Lies w.drew g t cs := h
theorem below3 (w : World) (o p q : Obj) : Below w.heap.size w (((w.alloc o).alloc p).alloc q) := (below2 w o p).alloc (by simp; omega) q
set_option maxHeartbeats 4000000 in
theorem compareKeys_any (o o' : Nat) (s s' : Int) (u u' : Bool) (h1 : in64 s) (h2 : in64 s') (w : World) :
    Calls Tryz.prog 126 #[.agg (ky o s u), .agg (ky o' s' u')] w fun e w' => e = .returned (.int .i64 (cmpI (kn o s u) (kn o' s' u'))) ∧ Below w.heap.size w w' := by
  rw [cmpI_or h1 h2]
  have C1 := Lib.hid (fun W => cmp32 o o' W)
  have C2 := Lib.hid (fun W => cmp64 s s' W)
  have C3 := Lib.hid (fun W => cmp8 (Ent.b2n u) (Ent.b2n u') W)
  have C4 := Lib.hid (fun W => flag_any u W)
  have C5 := Lib.hid (fun W => flag_any u' W)
  generalize cmpI (o : Int) (o' : Int) = x at *
  generalize cmpI s s' = y at *
  generalize cmpI ((Ent.b2n u : Nat) : Int) ((Ent.b2n u' : Nat) : Int) = z at *
  generalize Ent.b2n u = f1 at *
  generalize Ent.b2n u' = f2 at *
  clear h1 h2
  have hb := below3 w (.cells (ky o s u) 204) (.cells (ky o' s' u') 204) (.cells #[.int .i64 x, .int .i64 y, .int .i64 z] 3)
  have HB := Lib.hid hb
  have L0 := Lies.made3 w (.cells (ky o s u) 204) (.cells (ky o' s' u') 204) 3 #[.int .i64 x, .int .i64 y, .int .i64 z]
  have CO := Lib.hid (or3 (w.heap.size + 1 + 1) x y z ((((w.alloc (.cells (ky o s u) 204)).alloc (.cells (ky o' s' u') 204)).alloc (.cells #[.int .i64 x, .int .i64 y, .int .i64 z] 3)).drew) (L0.cell 0) (L0.cell 1) (L0.cell 2))
  clear L0
  generalize (if x ≠ 0 then x else if y ≠ 0 then y else z) = q at *
  clear hb
  go_enter Tryz.func126, Tryz.ntmps126
  go_wp2_with fail
  go_region_held3 (fun W => W.cell? ⟨w.heap.size, 0, none⟩ = some (.int .u32 (o : Int)) ∧ W.cell? ⟨w.heap.size, 1, none⟩ = some (.int .i64 s) ∧ W.cell? ⟨w.heap.size, 2, none⟩ = some (.bool u) ∧ W.cell? ⟨w.heap.size + 1, 0, none⟩ = some (.int .u32 (o' : Int)) ∧ W.cell? ⟨w.heap.size + 1, 1, none⟩ = some (.int .i64 s') ∧ W.cell? ⟨w.heap.size + 1, 2, none⟩ = some (.bool u')) (first | go_keep)
    (first
    | (go_at_call 148; (with_reducible refine (C1.out _).mono ?_); (rintro e w1 ⟨rfl, rfl⟩))
    | (go_at_call 149; (with_reducible refine (C2.out _).mono ?_); (rintro e w1 ⟨rfl, rfl⟩))
    | (go_at_call 150; (with_reducible refine (C3.out _).mono ?_); (rintro e w1 ⟨rfl, rfl⟩))
    | (go_at_call 151; (with_reducible refine (C4.out _).mono ?_); (rintro e w1 ⟨rfl, rfl⟩))
    | (go_at_call 151; (with_reducible refine (C5.out _).mono ?_); (rintro e w1 ⟨rfl, rfl⟩))
    | (go_at_call 147; (with_reducible refine CO.out.mono ?_); (rintro e w1 ⟨rfl, rfl⟩)))
  go_wp2
  go_ret
  exact ⟨rfl, HB.out.drew⟩
set_option maxHeartbeats 4000000 in
theorem compareToKey_any (x : Kx) (o : Nat) (s : Int) (u : Bool) (h1 : in64 x.k.s) (h2 : in64 s) (w : World) :
    Calls Tryz.prog 134 #[.agg (kc x), .agg (ky o s u)] w fun e w' => e = .returned (.int .i64 (cmpI x.k.k (kn o s u))) ∧ Below w.heap.size w w' := by
  obtain ⟨⟨xo, xs, xu, xa, xc, xr⟩, K, D⟩ := x
  simp only at h1
  have C1 := Lib.hid (fun W => keyOf_any ⟨⟨xo, xs, xu, xa, xc, xr⟩, K, D⟩ W)
  have C2 := Lib.hid (fun W => compareKeys_any xo o xs s xu u h1 h2 W)
  have LA := Lib.hid ((Lies.made w 130 #[.int .u32 (xo : Int), .int .i64 xs, .bool xu, K, .int .i64 xc, D]).alloc (.cells (ky o s u) 204))
  have LB := Lib.hid (Lies.made2 w (.cells #[.int .u32 (xo : Int), .int .i64 xs, .bool xu, K, .int .i64 xc, D] 130) 204 (ky o s u))
  have HB := Lib.hid (below2 w (.cells #[.int .u32 (xo : Int), .int .i64 xs, .bool xu, K, .int .i64 xc, D] 130) (.cells (ky o s u) 204))
  clear h1 h2
  go_enter Tryz.func134, Tryz.ntmps134
  go_wp2_with fail
  go_region_held3 (fun W => W.cell? ⟨w.heap.size, 0, none⟩ = some (.int .u32 (xo : Int)) ∧ W.cell? ⟨w.heap.size, 1, none⟩ = some (.int .i64 xs) ∧ W.cell? ⟨w.heap.size, 2, none⟩ = some (.bool xu) ∧ W.cell? ⟨w.heap.size, 3, none⟩ = some K ∧ W.cell? ⟨w.heap.size, 4, none⟩ = some (.int .i64 xc) ∧ W.cell? ⟨w.heap.size, 5, none⟩ = some D ∧ W.cell? ⟨w.heap.size + 1, 0, none⟩ = some (.int .u32 (o : Int)) ∧ W.cell? ⟨w.heap.size + 1, 1, none⟩ = some (.int .i64 s) ∧ W.cell? ⟨w.heap.size + 1, 2, none⟩ = some (.bool u)) (first | go_keep | (obtain ⟨f0, f1, f2, f3, f4, f5⟩ := LA2.out.cells6; obtain ⟨g0, g1, g2⟩ := LB2.out.cells3; exact ⟨f0, f1, f2, f3, f4, f5, g0, g1, g2⟩) | (obtain ⟨f0, f1, f2, f3, f4, f5⟩ := LA1.out.cells6; obtain ⟨g0, g1, g2⟩ := LB1.out.cells3; exact ⟨f0, f1, f2, f3, f4, f5, g0, g1, g2⟩))
    (first
    | (go_at_call 127; (with_reducible refine (C1.out _).mono ?_); (rintro e w1 ⟨rfl, hb⟩); (have LA1 := Lib.hid (Lies.below (Lies.drew LA.out) hb (Lies.lt LA.out))); (have LB1 := Lib.hid (Lies.below (Lies.drew LB.out) hb (Lies.lt LB.out))); (have B1 := Lib.hid (HB.out.drew.trans (hb.mono HB.out.size))); clear hb)
    | (go_at_call 126; (with_reducible refine (C2.out _).mono ?_); (rintro e w2 ⟨rfl, hb⟩); (have LA2 := Lib.hid (Lies.below LA1.out hb (Lies.lt LA1.out))); (have LB2 := Lib.hid (Lies.below LB1.out hb (Lies.lt LB1.out))); (have B2 := Lib.hid (B1.out.trans (hb.mono B1.out.size))); clear hb))
  go_wp2
  go_ret
  exact ⟨rfl, B2.out⟩

end Go.Proofs.YtpbclmnhkmcknaaGreat.Fe
