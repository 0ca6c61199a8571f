/-
  The contracts of flag, cmp.Compare, cmp.Or, keyOf, compareKeys and compareToKey.
-/
import Derived.Test.YtfcfejmammohpaaKRow
import Derived.Test.YtfcfejmammohpaaKRet
import Derived.Deep.RegionHeld3
import Derived.Deep.DrawnRows
namespace Go.Proofs.Ytfcfejmammohpaa
open Go.RowKit
set_option maxRecDepth 100000
set_option linter.unusedVariables false
set_option linter.unusedSimpArgs false

theorem nan32 (x : Int) (w : World) : Calls Try.prog 92 #[.int .u32 x] w fun e w' => e = .returned (.bool false) ∧ w = w' := by
  go_enter Try.func92, Try.ntmps92
  go_wp2
  go_ret
  exact ⟨rfl, rfl⟩
theorem nan64 (x : Int) (w : World) : Calls Try.prog 93 #[.int .i64 x] w fun e w' => e = .returned (.bool false) ∧ w = w' := by
  go_enter Try.func93, Try.ntmps93
  go_wp2
  go_ret
  exact ⟨rfl, rfl⟩
theorem nan8 (x : Int) (w : World) : Calls Try.prog 94 #[.int .u8 x] w fun e w' => e = .returned (.bool false) ∧ w = w' := by
  go_enter Try.func94, Try.ntmps94
  go_wp2
  go_ret
  exact ⟨rfl, rfl⟩
theorem cmp32 (x y : Nat) (w : World) : Calls Try.prog 74 #[.int .u32 (x : Int), .int .u32 (y : Int)] w fun e w' => e = .returned (.int .i64 (cmpI x y)) ∧ w = w' := by
  have C := Lib.hid nan32
  by_cases h : x < y
  · rw [cmpI_lt (x := x) (y := y) (by omega)]
    go_enter Try.func74, Try.ntmps74
    go_wp2_with fail
    with_reducible refine (C.out _ _).mono ?_
    rintro e w1 ⟨rfl, rfl⟩
    go_wp2_with fail
    with_reducible refine (C.out _ _).mono ?_
    rintro e w1 ⟨rfl, rfl⟩
    go_wp2
    go_ret
    exact ⟨rfl, rfl⟩
  · by_cases h2 : y < x
    · rw [cmpI_gt (x := x) (y := y) (by omega)]
      go_enter Try.func74, Try.ntmps74
      go_wp2_with fail
      with_reducible refine (C.out _ _).mono ?_
      rintro e w1 ⟨rfl, rfl⟩
      go_wp2_with fail
      with_reducible refine (C.out _ _).mono ?_
      rintro e w1 ⟨rfl, rfl⟩
      go_wp2
      go_ret
      exact ⟨rfl, rfl⟩
    · rw [cmpI_eq (x := x) (y := y) (by omega)]
      go_enter Try.func74, Try.ntmps74
      go_wp2_with fail
      with_reducible refine (C.out _ _).mono ?_
      rintro e w1 ⟨rfl, rfl⟩
      go_wp2_with fail
      with_reducible refine (C.out _ _).mono ?_
      rintro e w1 ⟨rfl, rfl⟩
      go_wp2
      go_ret
      exact ⟨rfl, rfl⟩
theorem cmp8 (x y : Nat) (w : World) : Calls Try.prog 76 #[.int .u8 (x : Int), .int .u8 (y : Int)] w fun e w' => e = .returned (.int .i64 (cmpI x y)) ∧ w = w' := by
  have C := Lib.hid nan8
  by_cases h : x < y
  · rw [cmpI_lt (x := x) (y := y) (by omega)]
    go_enter Try.func76, Try.ntmps76
    go_wp2_with fail
    with_reducible refine (C.out _ _).mono ?_
    rintro e w1 ⟨rfl, rfl⟩
    go_wp2_with fail
    with_reducible refine (C.out _ _).mono ?_
    rintro e w1 ⟨rfl, rfl⟩
    go_wp2
    go_ret
    exact ⟨rfl, rfl⟩
  · by_cases h2 : y < x
    · rw [cmpI_gt (x := x) (y := y) (by omega)]
      go_enter Try.func76, Try.ntmps76
      go_wp2_with fail
      with_reducible refine (C.out _ _).mono ?_
      rintro e w1 ⟨rfl, rfl⟩
      go_wp2_with fail
      with_reducible refine (C.out _ _).mono ?_
      rintro e w1 ⟨rfl, rfl⟩
      go_wp2
      go_ret
      exact ⟨rfl, rfl⟩
    · rw [cmpI_eq (x := x) (y := y) (by omega)]
      go_enter Try.func76, Try.ntmps76
      go_wp2_with fail
      with_reducible refine (C.out _ _).mono ?_
      rintro e w1 ⟨rfl, rfl⟩
      go_wp2_with fail
      with_reducible refine (C.out _ _).mono ?_
      rintro e w1 ⟨rfl, rfl⟩
      go_wp2
      go_ret
      exact ⟨rfl, rfl⟩
theorem cmp64 (x y : Int) (w : World) : Calls Try.prog 75 #[.int .i64 x, .int .i64 y] w fun e w' => e = .returned (.int .i64 (cmpI x y)) ∧ w = w' := by
  have C := Lib.hid nan64
  by_cases h : x < y
  · rw [cmpI_lt (x := x) (y := y) (by omega)]
    go_enter Try.func75, Try.ntmps75
    go_wp2_with fail
    with_reducible refine (C.out _ _).mono ?_
    rintro e w1 ⟨rfl, rfl⟩
    go_wp2_with fail
    with_reducible refine (C.out _ _).mono ?_
    rintro e w1 ⟨rfl, rfl⟩
    go_wp2
    go_ret
    exact ⟨rfl, rfl⟩
  · by_cases h2 : y < x
    · rw [cmpI_gt (x := x) (y := y) (by omega)]
      go_enter Try.func75, Try.ntmps75
      go_wp2_with fail
      with_reducible refine (C.out _ _).mono ?_
      rintro e w1 ⟨rfl, rfl⟩
      go_wp2_with fail
      with_reducible refine (C.out _ _).mono ?_
      rintro e w1 ⟨rfl, rfl⟩
      go_wp2
      go_ret
      exact ⟨rfl, rfl⟩
    · rw [cmpI_eq (x := x) (y := y) (by omega)]
      go_enter Try.func75, Try.ntmps75
      go_wp2_with fail
      with_reducible refine (C.out _ _).mono ?_
      rintro e w1 ⟨rfl, rfl⟩
      go_wp2_with fail
      with_reducible refine (C.out _ _).mono ?_
      rintro e w1 ⟨rfl, rfl⟩
      go_wp2
      go_ret
      exact ⟨rfl, rfl⟩
def OrR (x y z : Int) (w : World) (i : Value) (wr : World) : Prop := wr = w ∧ ∃ j : Nat, j ≤ 3 ∧ i = .int .i64 (j : Int) ∧ (0 < j → x = 0) ∧ (1 < j → y = 0) ∧ (2 < j → z = 0)
set_option maxHeartbeats 1000000 in
/-- cmp.Or of three numbers. -/
theorem or3 (g : Nat) (x y z : Int) (w : World) (h0 : w.cell? ⟨g, 0, none⟩ = some (.int .i64 x)) (h1 : w.cell? ⟨g, 1, none⟩ = some (.int .i64 y)) (h2 : w.cell? ⟨g, 2, none⟩ = some (.int .i64 z)) :
    Calls Try.prog 73 #[.slice (some ⟨g, 0, none⟩) 3 3] w fun e w' => e = .returned (.int .i64 (if x ≠ 0 then x else if y ≠ 0 then y else z)) ∧ w = w' := by
  go_enter Try.func73, Try.ntmps73
  go_wp2_with fail
  go_loopw [8] (OrR x y z w) (fun i _ => 3 - (intOf i).toNat)
  case atStart => exact ⟨rfl, 0, by omega, rfl, (fun h => by omega), (fun h => by omega), (fun h => by omega)⟩
  case round =>
    obtain ⟨rfl, j, hj, rfl, k0, k1, k2⟩ := hrel
    rcases j with _ | _ | _ | _ | j
    · clear k0 k1 k2
      by_cases a : x = 0
      · have A : (x == 0) = true := by simpa using a
        have HA := Lib.hid a
        clear a
        go_wp2
        go_roundw
        case rel => exact ⟨(by trivial), 1, by omega, rfl, (fun _ => HA.out), (fun h => by omega), (fun h => by omega)⟩
        case measure => simp [intOf]
      · have A : (x == 0) = false := by simpa using a
        have HA := Lib.hid a
        clear a
        go_wp2
        go_ret
        exact ⟨by first | rfl | exact ret_int (by simp [HA.out]), rfl⟩
    · have HX := Lib.hid (k0 (by omega))
      clear k0 k1 k2
      by_cases a : y = 0
      · have A : (y == 0) = true := by simpa using a
        have HA := Lib.hid a
        clear a
        go_wp2
        go_roundw
        case rel => exact ⟨(by trivial), 2, by omega, rfl, (fun _ => HX.out), (fun _ => HA.out), (fun h => by omega)⟩
        case measure => simp [intOf]
      · have A : (y == 0) = false := by simpa using a
        have HA := Lib.hid a
        clear a
        go_wp2
        go_ret
        exact ⟨by first | rfl | exact ret_int (by simp [HX.out, HA.out]), rfl⟩
    · have HX := Lib.hid (k0 (by omega))
      have HY := Lib.hid (k1 (by omega))
      clear k0 k1 k2
      by_cases a : z = 0
      · have A : (z == 0) = true := by simpa using a
        have HA := Lib.hid a
        clear a
        go_wp2
        go_roundw
        case rel => exact ⟨(by trivial), 3, by omega, rfl, (fun _ => HX.out), (fun _ => HY.out), (fun _ => HA.out)⟩
        case measure => simp [intOf]
      · have A : (z == 0) = false := by simpa using a
        have HA := Lib.hid a
        clear a
        go_wp2
        go_ret
        exact ⟨by first | rfl | exact ret_int (by simp [HX.out, HY.out]), rfl⟩
    · have HX := Lib.hid (k0 (by omega))
      have HY := Lib.hid (k1 (by omega))
      have HZ := Lib.hid (k2 (by omega))
      clear k0 k1 k2
      go_wp2
      go_ret
      exact ⟨by first | rfl | exact ret_int (by simp [HX.out, HY.out, HZ.out]), rfl⟩
    · omega

/-- A key's cells. -/
abbrev ky (o : Nat) (s : Int) (u : Bool) : Array Value := #[.int .u32 (o : Int), .int .i64 s, .bool u]
set_option maxHeartbeats 1000000 in
theorem keyOf_any (x : Kx) (w : World) : Calls Try.prog 47 #[.agg (kc x)] w fun e w' => e = .returned (.agg (ky x.k.o x.k.s x.k.u)) ∧ Below w.heap.size w w' := by
  go_enter Try.func47, Try.ntmps47
  go_wp2
  exact ret_key (w.heap.size + 1) 85 _ rfl rfl (Lies.made2 w _ 85 _) rfl rfl ⟨rfl, below2 w _ _⟩

theorem Lies.drew {w : World} {g : Nat} {t : TypeId} {cs : Array Value} (h : Lies w g t cs) : Lies w.drew g t cs := h
theorem below3 (w : World) (o p q : Obj) : Below w.heap.size w (((w.alloc o).alloc p).alloc q) := (below2 w o p).alloc (by simp; omega) q
set_option maxHeartbeats 4000000 in
theorem compareKeys_any (o o' : Nat) (s s' : Int) (u u' : Bool) (h1 : in64 s) (h2 : in64 s') (w : World) :
    Calls Try.prog 46 #[.agg (ky o s u), .agg (ky o' s' u')] w fun e w' => e = .returned (.int .i64 (cmpI (kn o s u) (kn o' s' u'))) ∧ Below w.heap.size w w' := by
  rw [cmpI_or h1 h2]
  have C1 := Lib.hid (fun W => cmp32 o o' W)
  have C2 := Lib.hid (fun W => cmp64 s s' W)
  have C3 := Lib.hid (fun W => cmp8 (Ent.b2n u) (Ent.b2n u') W)
  have C4 := Lib.hid (fun W => flag_any u W)
  have C5 := Lib.hid (fun W => flag_any u' W)
  generalize cmpI (o : Int) (o' : Int) = x at *
  generalize cmpI s s' = y at *
  generalize cmpI ((Ent.b2n u : Nat) : Int) ((Ent.b2n u' : Nat) : Int) = z at *
  generalize Ent.b2n u = f1 at *
  generalize Ent.b2n u' = f2 at *
  clear h1 h2
  have hb := below3 w (.cells (ky o s u) 85) (.cells (ky o' s' u') 85) (.cells #[.int .i64 x, .int .i64 y, .int .i64 z] 3)
  have HB := Lib.hid hb
  have L0 := Lies.made3 w (.cells (ky o s u) 85) (.cells (ky o' s' u') 85) 3 #[.int .i64 x, .int .i64 y, .int .i64 z]
  have CO := Lib.hid (or3 (w.heap.size + 1 + 1) x y z ((((w.alloc (.cells (ky o s u) 85)).alloc (.cells (ky o' s' u') 85)).alloc (.cells #[.int .i64 x, .int .i64 y, .int .i64 z] 3)).drew) (L0.cell 0) (L0.cell 1) (L0.cell 2))
  clear L0
  generalize (if x ≠ 0 then x else if y ≠ 0 then y else z) = q at *
  clear hb
  go_enter Try.func46, Try.ntmps46
  go_wp2_with fail
  go_region_held3 (fun W => W.cell? ⟨w.heap.size, 0, none⟩ = some (.int .u32 (o : Int)) ∧ W.cell? ⟨w.heap.size, 1, none⟩ = some (.int .i64 s) ∧ W.cell? ⟨w.heap.size, 2, none⟩ = some (.bool u) ∧ W.cell? ⟨w.heap.size + 1, 0, none⟩ = some (.int .u32 (o' : Int)) ∧ W.cell? ⟨w.heap.size + 1, 1, none⟩ = some (.int .i64 s') ∧ W.cell? ⟨w.heap.size + 1, 2, none⟩ = some (.bool u')) (first | go_keep)
    (first
    | (go_at_call 74; (with_reducible refine (C1.out _).mono ?_); (rintro e w1 ⟨rfl, rfl⟩))
    | (go_at_call 75; (with_reducible refine (C2.out _).mono ?_); (rintro e w1 ⟨rfl, rfl⟩))
    | (go_at_call 76; (with_reducible refine (C3.out _).mono ?_); (rintro e w1 ⟨rfl, rfl⟩))
    | (go_at_call 77; (with_reducible refine (C4.out _).mono ?_); (rintro e w1 ⟨rfl, rfl⟩))
    | (go_at_call 77; (with_reducible refine (C5.out _).mono ?_); (rintro e w1 ⟨rfl, rfl⟩))
    | (go_at_call 73; (with_reducible refine CO.out.mono ?_); (rintro e w1 ⟨rfl, rfl⟩)))
  go_wp2
  go_ret
  exact ⟨rfl, HB.out.drew⟩
set_option maxHeartbeats 4000000 in
theorem compareToKey_any (x : Kx) (o : Nat) (s : Int) (u : Bool) (h1 : in64 x.k.s) (h2 : in64 s) (w : World) :
    Calls Try.prog 69 #[.agg (kc x), .agg (ky o s u)] w fun e w' => e = .returned (.int .i64 (cmpI x.k.k (kn o s u))) ∧ Below w.heap.size w w' := by
  obtain ⟨⟨xo, xs, xu, xa, xc, xr⟩, K, D⟩ := x
  simp only at h1
  have C1 := Lib.hid (fun W => keyOf_any ⟨⟨xo, xs, xu, xa, xc, xr⟩, K, D⟩ W)
  have C2 := Lib.hid (fun W => compareKeys_any xo o xs s xu u h1 h2 W)
  have LA := Lib.hid ((Lies.made w 34 #[.int .u32 (xo : Int), .int .i64 xs, .bool xu, K, .int .i64 xc, D]).alloc (.cells (ky o s u) 85))
  have LB := Lib.hid (Lies.made2 w (.cells #[.int .u32 (xo : Int), .int .i64 xs, .bool xu, K, .int .i64 xc, D] 34) 85 (ky o s u))
  have HB := Lib.hid (below2 w (.cells #[.int .u32 (xo : Int), .int .i64 xs, .bool xu, K, .int .i64 xc, D] 34) (.cells (ky o s u) 85))
  clear h1 h2
  go_enter Try.func69, Try.ntmps69
  go_wp2_with fail
  go_region_held3 (fun W => W.cell? ⟨w.heap.size, 0, none⟩ = some (.int .u32 (xo : Int)) ∧ W.cell? ⟨w.heap.size, 1, none⟩ = some (.int .i64 xs) ∧ W.cell? ⟨w.heap.size, 2, none⟩ = some (.bool xu) ∧ W.cell? ⟨w.heap.size, 3, none⟩ = some K ∧ W.cell? ⟨w.heap.size, 4, none⟩ = some (.int .i64 xc) ∧ W.cell? ⟨w.heap.size, 5, none⟩ = some D ∧ W.cell? ⟨w.heap.size + 1, 0, none⟩ = some (.int .u32 (o : Int)) ∧ W.cell? ⟨w.heap.size + 1, 1, none⟩ = some (.int .i64 s) ∧ W.cell? ⟨w.heap.size + 1, 2, none⟩ = some (.bool u)) (first | go_keep | (obtain ⟨f0, f1, f2, f3, f4, f5⟩ := LA2.out.cells6; obtain ⟨g0, g1, g2⟩ := LB2.out.cells3; exact ⟨f0, f1, f2, f3, f4, f5, g0, g1, g2⟩) | (obtain ⟨f0, f1, f2, f3, f4, f5⟩ := LA1.out.cells6; obtain ⟨g0, g1, g2⟩ := LB1.out.cells3; exact ⟨f0, f1, f2, f3, f4, f5, g0, g1, g2⟩))
    (first
    | (go_at_call 47; (with_reducible refine (C1.out _).mono ?_); (rintro e w1 ⟨rfl, hb⟩); (have LA1 := Lib.hid (Lies.below (Lies.drew LA.out) hb (Lies.lt LA.out))); (have LB1 := Lib.hid (Lies.below (Lies.drew LB.out) hb (Lies.lt LB.out))); (have B1 := Lib.hid (HB.out.drew.trans (hb.mono HB.out.size))); clear hb)
    | (go_at_call 46; (with_reducible refine (C2.out _).mono ?_); (rintro e w2 ⟨rfl, hb⟩); (have LA2 := Lib.hid (Lies.below LA1.out hb (Lies.lt LA1.out))); (have LB2 := Lib.hid (Lies.below LB1.out hb (Lies.lt LB1.out))); (have B2 := Lib.hid (B1.out.trans (hb.mono B1.out.size))); clear hb))
  go_wp2
  go_ret
  exact ⟨rfl, B2.out⟩

end Go.Proofs.Ytfcfejmammohpaa
