/-
  The contract of the document's 'part': for each letter.
-/
import Derived.Test.YtfcfejmammohpaaRNm
import Derived.Test.YtfcfejmammohpaaROne
import Derived.Test.YtfcfejmammohpaaNGet
import Derived.Deep.RegionHeld3
namespace Go.Proofs.Ytfcfejmammohpaa
open Go.RowKit
set_option maxRecDepth 100000
set_option linter.unusedVariables false

/-- A letter's part as a field. -/
def fldOf (e : Note) (K D : Value) (c : Nat) : Fld :=
  if c = 69 then num 4 e.epoch else if c = 80 then num 4 e.old else if c = 76 then num 8 e.lsn else if c = 84 then num 8 e.tick else if c = 79 then num 4 e.order
  else if c = 83 then num 1 e.step.toNat else if c = 85 then num 1 (Ent.b2n e.undo) else if c = 67 then num 1 e.code.toNat else if c = 75 then ⟨0, 0, K, e.key⟩ else ⟨0, 0, D, e.data⟩
abbrev fcs (f : Fld) : Array Value := #[.int .i64 (f.size : Nat), .int .u64 (f.n : Nat), f.T]
def PartPost (f : Fld) (z : Bool) (w : World) (x : Ending) (w' : World) : Prop := x = .returned (.tuple #[.agg (fcs f), .bool z]) ∧ Below w.heap.size w w'
set_option maxRecDepth 100000 in
theorem ret_F {fn : Func} {R : Ending → World → Prop} {a : Act} {w : World} {p u : Tmp} (g : Nat) (t : TypeId) (cs : Array Value) (h : fn.results = #[.cell p 101, .tmp u]) (hp : a.tmps.getD p undef = .pointer (some ⟨g, 0, none⟩)) (hg : Lies w g t cs) (hs : cs.size = 3) (hd : a.defers = [])
    (hR : R (.returned (.tuple #[.agg cs, a.tmps.getD u undef])) w) : bodyPost Try.prog fn R .ret a w :=
  bodyPost_ret (results_cell_run h _ _ g cs hp (run_loadVar_row w g t 101 cs (0, 0) _ hg Try.underlying101 rfl (by rw [hs]; kernel_rfl))) hd hR
theorem part_ret {x y z : Value} {a b : Bool} (h : a = b) : Ending.returned (.tuple #[.agg #[x, y, z], .bool a]) = .returned (.tuple #[.agg #[x, y, z], .bool b]) := by rw [h]

set_option maxRecDepth 100000 in
set_option maxHeartbeats 1000000 in
theorem part_69 (e : Note) (A1 A2 : Option Addr) (c1 c2 : Nat) (w : World) (hb : e.epoch < 4294967296) :
    Calls Try.prog 66 #[.agg (evs e (.slice A1 e.key.length c1) (.slice A2 e.data.length c2)), .int .u8 69] w (PartPost (num 4 e.epoch) (Ent.isZ 69 e) w) := by
  unfold PartPost
  rw [show Ent.isZ 69 e = decide (e.epoch = 0) from rfl]
  have hx : IntKind.u64.wrap ((e.epoch : Nat) : Int) = ((e.epoch : Nat) : Int) := by rw [IntKind.wrap_u64]; omega
  generalize e.key.length = n1
  generalize e.data.length = n2
  go_enter Try.func66, Try.ntmps66
  go_wp2_with fail
  go_region_held3 (fun W => W.cell? ⟨w.heap.size, 1, none⟩ = some (.int .u32 (e.epoch : Nat))) (first | go_keep) (fail)
  go_wp2
  exact ret_F (w.heap.size + 1) 101 _ rfl rfl (Lies.made2 w _ 101 _) rfl rfl ⟨part_ret (by first | rfl | (rw [Bool.eq_iff_iff]; simp; done) | (rw [Bool.eq_iff_iff]; simp; omega)), (below2 w _ _).drew⟩

set_option maxRecDepth 100000 in
set_option maxHeartbeats 1000000 in
theorem part_80 (e : Note) (A1 A2 : Option Addr) (c1 c2 : Nat) (w : World) (hb : e.old < 4294967296) :
    Calls Try.prog 66 #[.agg (evs e (.slice A1 e.key.length c1) (.slice A2 e.data.length c2)), .int .u8 80] w (PartPost (num 4 e.old) (Ent.isZ 80 e) w) := by
  unfold PartPost
  rw [show Ent.isZ 80 e = decide (e.old = 0) from rfl]
  have hx : IntKind.u64.wrap ((e.old : Nat) : Int) = ((e.old : Nat) : Int) := by rw [IntKind.wrap_u64]; omega
  generalize e.key.length = n1
  generalize e.data.length = n2
  go_enter Try.func66, Try.ntmps66
  go_wp2_with fail
  go_region_held3 (fun W => W.cell? ⟨w.heap.size, 2, none⟩ = some (.int .u32 (e.old : Nat))) (first | go_keep) (fail)
  go_wp2
  exact ret_F (w.heap.size + 1) 101 _ rfl rfl (Lies.made2 w _ 101 _) rfl rfl ⟨part_ret (by first | rfl | (rw [Bool.eq_iff_iff]; simp; done) | (rw [Bool.eq_iff_iff]; simp; omega)), (below2 w _ _).drew⟩

set_option maxRecDepth 100000 in
set_option maxHeartbeats 1000000 in
theorem part_76 (e : Note) (A1 A2 : Option Addr) (c1 c2 : Nat) (w : World) :
    Calls Try.prog 66 #[.agg (evs e (.slice A1 e.key.length c1) (.slice A2 e.data.length c2)), .int .u8 76] w (PartPost (num 8 e.lsn) (Ent.isZ 76 e) w) := by
  unfold PartPost
  rw [show Ent.isZ 76 e = decide (e.lsn = 0) from rfl]
  generalize e.key.length = n1
  generalize e.data.length = n2
  go_enter Try.func66, Try.ntmps66
  go_wp2_with fail
  go_region_held3 (fun W => W.cell? ⟨w.heap.size, 3, none⟩ = some (.int .u64 (e.lsn : Nat))) (first | go_keep) (fail)
  go_wp2
  exact ret_F (w.heap.size + 1) 101 _ rfl rfl (Lies.made2 w _ 101 _) rfl rfl ⟨part_ret (by first | rfl | (rw [Bool.eq_iff_iff]; simp; done) | (rw [Bool.eq_iff_iff]; simp; omega)), (below2 w _ _).drew⟩

set_option maxRecDepth 100000 in
set_option maxHeartbeats 1000000 in
theorem part_84 (e : Note) (A1 A2 : Option Addr) (c1 c2 : Nat) (w : World) :
    Calls Try.prog 66 #[.agg (evs e (.slice A1 e.key.length c1) (.slice A2 e.data.length c2)), .int .u8 84] w (PartPost (num 8 e.tick) (Ent.isZ 84 e) w) := by
  unfold PartPost
  rw [show Ent.isZ 84 e = decide (e.tick = 0) from rfl]
  generalize e.key.length = n1
  generalize e.data.length = n2
  go_enter Try.func66, Try.ntmps66
  go_wp2_with fail
  go_region_held3 (fun W => W.cell? ⟨w.heap.size, 4, none⟩ = some (.int .u64 (e.tick : Nat))) (first | go_keep) (fail)
  go_wp2
  exact ret_F (w.heap.size + 1) 101 _ rfl rfl (Lies.made2 w _ 101 _) rfl rfl ⟨part_ret (by first | rfl | (rw [Bool.eq_iff_iff]; simp; done) | (rw [Bool.eq_iff_iff]; simp; omega)), (below2 w _ _).drew⟩

set_option maxRecDepth 100000 in
set_option maxHeartbeats 1000000 in
theorem part_79 (e : Note) (A1 A2 : Option Addr) (c1 c2 : Nat) (w : World) (hb : e.order < 4294967296) :
    Calls Try.prog 66 #[.agg (evs e (.slice A1 e.key.length c1) (.slice A2 e.data.length c2)), .int .u8 79] w (PartPost (num 4 e.order) (Ent.isZ 79 e) w) := by
  unfold PartPost
  rw [show Ent.isZ 79 e = decide (e.order = 0) from rfl]
  have hx : IntKind.u64.wrap ((e.order : Nat) : Int) = ((e.order : Nat) : Int) := by rw [IntKind.wrap_u64]; omega
  generalize e.key.length = n1
  generalize e.data.length = n2
  go_enter Try.func66, Try.ntmps66
  go_wp2_with fail
  go_region_held3 (fun W => W.cell? ⟨w.heap.size, 5, none⟩ = some (.int .u32 (e.order : Nat))) (first | go_keep) (fail)
  go_wp2
  exact ret_F (w.heap.size + 1) 101 _ rfl rfl (Lies.made2 w _ 101 _) rfl rfl ⟨part_ret (by first | rfl | (rw [Bool.eq_iff_iff]; simp; done) | (rw [Bool.eq_iff_iff]; simp; omega)), (below2 w _ _).drew⟩

set_option maxRecDepth 100000 in
set_option maxHeartbeats 1000000 in
theorem part_83 (e : Note) (A1 A2 : Option Addr) (c1 c2 : Nat) (w : World) (q : Nat) (hq : e.step = (q : Int)) (hq2 : q < 256) :
    Calls Try.prog 66 #[.agg (evs e (.slice A1 e.key.length c1) (.slice A2 e.data.length c2)), .int .u8 83] w (PartPost (num 1 q) (Ent.isZ 83 e) w) := by
  unfold PartPost
  rw [show Ent.isZ 83 e = decide (e.step = 0) from rfl]
  unfold evs
  rw [hq]
  have hx : IntKind.u64.wrap ((q : Nat) : Int) = (q : Int) := by rw [IntKind.wrap_u64]; omega
  generalize e.key.length = n1
  generalize e.data.length = n2
  go_enter Try.func66, Try.ntmps66
  go_wp2_with fail
  go_region_held3 (fun W => W.cell? ⟨w.heap.size, 6, none⟩ = some (.int .i64 (q : Nat))) (first | go_keep) (fail)
  go_wp2
  exact ret_F (w.heap.size + 1) 101 _ rfl rfl (Lies.made2 w _ 101 _) rfl rfl ⟨part_ret (by first | rfl | (rw [Bool.eq_iff_iff]; simp; done) | (rw [Bool.eq_iff_iff]; simp; omega)), (below2 w _ _).drew⟩

set_option maxRecDepth 100000 in
set_option maxHeartbeats 1000000 in
theorem part_85 (e : Note) (A1 A2 : Option Addr) (c1 c2 : Nat) (w : World) :
    Calls Try.prog 66 #[.agg (evs e (.slice A1 e.key.length c1) (.slice A2 e.data.length c2)), .int .u8 85] w (PartPost (num 1 (Ent.b2n e.undo)) (Ent.isZ 85 e) w) := by
  unfold PartPost
  rw [show Ent.isZ 85 e = !e.undo from rfl]
  generalize e.key.length = n1
  generalize e.data.length = n2
  unfold evs
  generalize e.undo = u
  cases u
  · go_enter Try.func66, Try.ntmps66
    go_wp2
    exact ret_F (w.heap.size + 1) 101 _ rfl rfl (Lies.made2 w _ 101 _) rfl rfl ⟨part_ret (by rfl), (below2 w _ _)⟩
  · go_enter Try.func66, Try.ntmps66
    go_wp2
    exact ret_F (w.heap.size + 1) 101 _ rfl rfl (Lies.made2 w _ 101 _) rfl rfl ⟨part_ret (by rfl), (below2 w _ _)⟩

set_option maxRecDepth 100000 in
set_option maxHeartbeats 1000000 in
theorem part_67 (e : Note) (A1 A2 : Option Addr) (c1 c2 : Nat) (w : World) (q : Nat) (hq : e.code = (q : Int)) (hq2 : q < 256) :
    Calls Try.prog 66 #[.agg (evs e (.slice A1 e.key.length c1) (.slice A2 e.data.length c2)), .int .u8 67] w (PartPost (num 1 q) (Ent.isZ 67 e) w) := by
  unfold PartPost
  rw [show Ent.isZ 67 e = decide (e.code = 0) from rfl]
  unfold evs
  rw [hq]
  have hx : IntKind.u64.wrap ((q : Nat) : Int) = (q : Int) := by rw [IntKind.wrap_u64]; omega
  generalize e.key.length = n1
  generalize e.data.length = n2
  go_enter Try.func66, Try.ntmps66
  go_wp2_with fail
  go_region_held3 (fun W => W.cell? ⟨w.heap.size, 8, none⟩ = some (.int .i64 (q : Nat))) (first | go_keep) (fail)
  go_wp2
  exact ret_F (w.heap.size + 1) 101 _ rfl rfl (Lies.made2 w _ 101 _) rfl rfl ⟨part_ret (by first | rfl | (rw [Bool.eq_iff_iff]; simp; done) | (rw [Bool.eq_iff_iff]; simp; omega)), (below2 w _ _).drew⟩

set_option maxRecDepth 100000 in
set_option maxHeartbeats 1000000 in
theorem part_75 (e : Note) (A1 A2 : Option Addr) (c1 c2 : Nat) (w : World) :
    Calls Try.prog 66 #[.agg (evs e (.slice A1 e.key.length c1) (.slice A2 e.data.length c2)), .int .u8 75] w (PartPost (⟨0, 0, .slice A1 e.key.length c1, e.key⟩) (Ent.isZ 75 e) w) := by
  unfold PartPost
  rw [show Ent.isZ 75 e = decide (e.key.length = 0) from rfl]
  obtain ⟨n1, hn1⟩ : ∃ n, e.key.length = n := ⟨_, rfl⟩
  rw [hn1]
  generalize e.data.length = n2
  go_enter Try.func66, Try.ntmps66
  go_wp2_with fail
  go_region_held3 (fun W => W.cell? ⟨w.heap.size, 9, none⟩ = some (.slice A1 n1 c1)) (first | go_keep) (fail)
  go_wp2
  exact ret_F (w.heap.size + 1) 101 _ rfl rfl (Lies.made2 w _ 101 _) rfl rfl ⟨part_ret (by first | rfl | (rw [Bool.eq_iff_iff]; simp; done) | (rw [Bool.eq_iff_iff]; simp; omega)), (below2 w _ _).drew⟩

set_option maxRecDepth 100000 in
set_option maxHeartbeats 1000000 in
theorem part_68 (e : Note) (A1 A2 : Option Addr) (c1 c2 : Nat) (w : World) :
    Calls Try.prog 66 #[.agg (evs e (.slice A1 e.key.length c1) (.slice A2 e.data.length c2)), .int .u8 68] w (PartPost (⟨0, 0, .slice A2 e.data.length c2, e.data⟩) (Ent.isZ 68 e) w) := by
  unfold PartPost
  rw [show Ent.isZ 68 e = decide (e.data.length = 0) from rfl]
  generalize e.key.length = n1
  obtain ⟨n2, hn2⟩ : ∃ n, e.data.length = n := ⟨_, rfl⟩
  rw [hn2]
  go_enter Try.func66, Try.ntmps66
  go_wp2_with fail
  go_region_held3 (fun W => W.cell? ⟨w.heap.size, 10, none⟩ = some (.slice A2 n2 c2)) (first | go_keep) (fail)
  go_wp2
  exact ret_F (w.heap.size + 1) 101 _ rfl rfl (Lies.made2 w _ 101 _) rfl rfl ⟨part_ret (by first | rfl | (rw [Bool.eq_iff_iff]; simp; done) | (rw [Bool.eq_iff_iff]; simp; omega)), (below2 w _ _).drew⟩

theorem part_any (e : Note) (A1 A2 : Option Addr) (c1 c2 : Nat) (c : Nat) (hc : c ∈ Ent.alpha) (w : World) (hb : Ent.Bnd e) (hi : Ent.inB e = true) :
    Calls Try.prog 66 #[.agg (evs e (.slice A1 e.key.length c1) (.slice A2 e.data.length c2)), .int .u8 (c : Nat)] w (PartPost (fldOf e (.slice A1 e.key.length c1) (.slice A2 e.data.length c2) c) (Ent.isZ c e) w) := by
  have hi := (Ent.inB_iff e).1 hi
  rcases Ent.alpha_cases hc with rfl | rfl | rfl | rfl | rfl | rfl | rfl | rfl | rfl | rfl
  · exact part_69 e A1 A2 c1 c2 w hb.epoch
  · exact part_80 e A1 A2 c1 c2 w hb.old
  · exact part_76 e A1 A2 c1 c2 w
  · exact part_84 e A1 A2 c1 c2 w
  · exact part_79 e A1 A2 c1 c2 w hb.order
  · exact part_83 e A1 A2 c1 c2 w e.step.toNat (by omega) (by omega)
  · exact part_85 e A1 A2 c1 c2 w
  · exact part_67 e A1 A2 c1 c2 w e.code.toNat (by omega) (by omega)
  · exact part_75 e A1 A2 c1 c2 w
  · exact part_68 e A1 A2 c1 c2 w

end Go.Proofs.Ytfcfejmammohpaa
