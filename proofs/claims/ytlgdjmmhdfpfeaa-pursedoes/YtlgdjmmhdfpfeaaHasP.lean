/-
  The contract of hasPayment.
-/
import Derived.Test.YtlgdjmmhdfpfeaaStk
namespace Go.Proofs.Ytlgdjmmhdfpfeaa
open Go.RowKit Go.Maps
set_option maxRecDepth 100000
set_option linter.unusedVariables false
set_option linter.unusedSimpArgs false

theorem look_nil (o : Nat) (ho : o < 4294967296) (w : World) : (Instr.lookup 55 (.map none) (.int .u32 (o : Int)) true).run Try.prog w = .ok (.tuple #[vH zH, .bool false]) w :=
  Maps.look_nil true lawH Try.underlying55 (Try.zeroValue68 w) (keyH o ho)
theorem run_idx (b : SB) (w : World) : Sem.run Try.prog (Instr.index 56 (.agg #[.map none, .map (some b.p1), .map (some b.p2), .map (some b.p3)]) (.int .i64 0)) w = .ok (.map none) w ∧
    Sem.run Try.prog (Instr.index 56 (.agg #[.map none, .map (some b.p1), .map (some b.p2), .map (some b.p3)]) (.int .i64 1)) w = .ok (.map (some b.p1)) w ∧
    Sem.run Try.prog (Instr.index 56 (.agg #[.map none, .map (some b.p1), .map (some b.p2), .map (some b.p3)]) (.int .i64 2)) w = .ok (.map (some b.p2)) w ∧
    Sem.run Try.prog (Instr.index 56 (.agg #[.map none, .map (some b.p1), .map (some b.p2), .map (some b.p3)]) (.int .i64 3)) w = .ok (.map (some b.p3)) w := by
  refine ⟨?_, ?_, ?_, ?_⟩
  all_goals (show (Instr.index 56 _ _).run Try.prog w = _; kernel_rfl)
theorem st_find {q : Ss} (hI : Inv q) {o : Nat} (h1 : findH (stH q.H 1) o = none) (h2 : findH (stH q.H 2) o = none) (h3 : findH (stH q.H 3) o = none) : findH q.H o = none := by
  refine findH_none' fun y hy e => ?_
  obtain ⟨-, -, -, a, b, -⟩ := hI.hh y hy
  rcases (by omega : y.t = 1 ∨ y.t = 2 ∨ y.t = 3) with e1 | e1 | e1
  · exact findH_none h1 y (mem_stH.2 ⟨hy, e1⟩) e
  · exact findH_none h2 y (mem_stH.2 ⟨hy, e1⟩) e
  · exact findH_none h3 y (mem_stH.2 ⟨hy, e1⟩) e
theorem st_some {q : Ss} (hI : Inv q) {o t : Nat} {y : Hd} (h : findH (stH q.H t) o = some y) : findH q.H o = some y := by
  obtain ⟨h1, rfl⟩ := findH_some h
  exact hI.hs.find (mem_stH.1 h1).1
def HsR (w : World) (q : Ss) (o : Nat) (i : Value) (wr : World) : Prop := ∃ j : Nat, j ≤ 4 ∧ i = .int .i64 (j : Int) ∧ Below w.heap.size w wr ∧ (1 < j → findH (stH q.H 1) o = none) ∧ (2 < j → findH (stH q.H 2) o = none) ∧ (3 < j → findH (stH q.H 3) o = none)

set_option maxHeartbeats 4000000 in
theorem has_any (b : SB) (q : Ss) (o : Nat) (w : World) (hA : At w b q) (hI : Inv q) (ho : o < 4294967296) : Calls Try.prog 39 #[.pointer (some ⟨b.s, 0, none⟩), .int .u32 (o : Int)] w fun e w' => e = .returned (.bool (findH q.H o).isSome) ∧ Below w.heap.size w w' := by
  have HA := Lib.hid hA
  have HI := Lib.hid hI
  obtain ⟨c0, c1, c2, c3, c4⟩ := hA.c.cells5
  clear hA hI
  go_enter Try.func39, Try.ntmps39
  go_wp2_with fail
  clear c0 c1 c2 c3 c4
  go_loopw [13] (fun v13 wr => HsR w q o v13 wr) (fun i _ => 4 - (intOf i).toNat)
  case atStart => exact ⟨0, by omega, rfl, Below.refl _ _, fun h => by omega, fun h => by omega, fun h => by omega⟩
  case round =>
    obtain ⟨j, hj, rfl, hB, n1, n2, n3⟩ := hrel
    have HB := Lib.hid hB
    have HAr := Lib.hid (HA.out.below hB)
    obtain ⟨i0, i1, i2, i3⟩ := run_idx b wr
    clear hB
    rcases (by omega : j = 0 ∨ j = 1 ∨ j = 2 ∨ j = 3 ∨ j = 4) with rfl | rfl | rfl | rfl | rfl
    · clear i1 i2 i3
      have lk := look_nil o ho wr
      go_wp2
      go_roundw
      case rel => exact ⟨1, by omega, rfl, HB.out.alloc HB.out.size _, fun h => by omega, fun h => by omega, fun h => by omega⟩
      case measure => simp [intOf]
    · clear i0 i2 i3
      have lk := HAr.out.o1.look_ok o ho
      cases hf : findH (stH q.H 1) o with
      | none =>
        have HN := Lib.hid hf
        rw [hf] at lk
        dsimp only [Option.getD_none, Option.isSome_none] at lk
        clear hf
        go_wp2
        go_roundw
        case rel => exact ⟨2, by omega, rfl, HB.out.alloc HB.out.size _, fun h => HN.out, fun h => by omega, fun h => by omega⟩
        case measure => simp [intOf]
      | some y =>
        have HS : Hid ((findH q.H o).isSome = true) := Lib.hid (by rw [st_some HI.out hf]; rfl)
        rw [hf] at lk
        dsimp only [Option.getD_some, Option.isSome_some] at lk
        clear hf n1 n2 n3
        go_wp2
        go_ret
        exact ⟨by rw [HS.out]; rfl, HB.out.alloc HB.out.size _⟩
    · clear i0 i1 i3
      have lk := HAr.out.o2.look_ok o ho
      cases hf : findH (stH q.H 2) o with
      | none =>
        have HN := Lib.hid hf
        rw [hf] at lk
        dsimp only [Option.getD_none, Option.isSome_none] at lk
        clear hf
        go_wp2
        go_roundw
        case rel => exact ⟨3, by omega, rfl, HB.out.alloc HB.out.size _, fun h => n1 (by omega), fun h => HN.out, fun h => by omega⟩
        case measure => simp [intOf]
      | some y =>
        have HS : Hid ((findH q.H o).isSome = true) := Lib.hid (by rw [st_some HI.out hf]; rfl)
        rw [hf] at lk
        dsimp only [Option.getD_some, Option.isSome_some] at lk
        clear hf n1 n2 n3
        go_wp2
        go_ret
        exact ⟨by rw [HS.out]; rfl, HB.out.alloc HB.out.size _⟩
    · clear i0 i1 i2
      have lk := HAr.out.o3.look_ok o ho
      cases hf : findH (stH q.H 3) o with
      | none =>
        have HN := Lib.hid hf
        rw [hf] at lk
        dsimp only [Option.getD_none, Option.isSome_none] at lk
        clear hf
        go_wp2
        go_roundw
        case rel => exact ⟨4, by omega, rfl, HB.out.alloc HB.out.size _, fun h => n1 (by omega), fun h => n2 (by omega), fun h => HN.out⟩
        case measure => simp [intOf]
      | some y =>
        have HS : Hid ((findH q.H o).isSome = true) := Lib.hid (by rw [st_some HI.out hf]; rfl)
        rw [hf] at lk
        dsimp only [Option.getD_some, Option.isSome_some] at lk
        clear hf n1 n2 n3
        go_wp2
        go_ret
        exact ⟨by rw [HS.out]; rfl, HB.out.alloc HB.out.size _⟩
    · clear i0 i1 i2 i3
      have HN : Hid ((findH q.H o).isSome = false) := Lib.hid (by rw [st_find HI.out (n1 (by omega)) (n2 (by omega)) (n3 (by omega))]; rfl)
      clear n1 n2 n3
      go_wp2
      go_ret
      exact ⟨by rw [HN.out]; rfl, HB.out⟩

end Go.Proofs.Ytlgdjmmhdfpfeaa
