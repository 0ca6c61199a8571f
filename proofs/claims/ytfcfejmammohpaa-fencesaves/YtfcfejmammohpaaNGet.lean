/-
  The contract of note.Get: for every slice of bytes.
-/
import Derived.Test.YtfcfejmammohpaaNRd
import Derived.Test.YtfcfejmammohpaaNChk
import Derived.Laws.ResultCell
namespace Go.Proofs.Ytfcfejmammohpaa
open Go.RowKit
set_option maxRecDepth 100000

set_option maxHeartbeats 400000 in
theorem equal_any (a b : Option Addr) (n m c d : Nat) (la lb : List Nat) (w : World) (hA : Bys w a n la) (hB : Bys w b m lb) :
    Calls Try.prog 40 #[.slice a n c, .slice b m d] w fun e w' => e = .returned (.bool (sameB la lb)) ∧ w = w' := by
  have r1 := run_str hA c
  have r2 := run_str hB d
  have r3 := str_eq la lb hA.2.1 hB.2.1
  clear hA hB
  go_enter Try.func40, Try.ntmps40
  go_wp2
  go_ret
  exact ⟨rfl, rfl⟩

set_option maxRecDepth 100000 in
theorem setCells_evs (w : World) (g : Nat) (e : Note) (K D : Value) : w.setCells g 0 (evs e K D).toList = (((((((((((w.setCell ⟨g, 0, none⟩ (.int .i64 e.kind)).setCell ⟨g, 1, none⟩ (.int .u32 (e.epoch : Nat))).setCell ⟨g, 2, none⟩ (.int .u32 (e.old : Nat))).setCell ⟨g, 3, none⟩ (.int .u64 (e.lsn : Nat))).setCell ⟨g, 4, none⟩ (.int .u64 (e.tick : Nat))).setCell ⟨g, 5, none⟩ (.int .u32 (e.order : Nat))).setCell ⟨g, 6, none⟩ (.int .i64 e.step)).setCell ⟨g, 7, none⟩ (.bool e.undo)).setCell ⟨g, 8, none⟩ (.int .i64 e.code)).setCell ⟨g, 9, none⟩ (K)).setCell ⟨g, 10, none⟩ (D)) := rfl
theorem setCells_zero (w : World) (g : Nat) : w.setCells g 0 (evs Ent.zero nilV nilV).toList = (((((((((((w.setCell ⟨g, 0, none⟩ (.int .i64 0)).setCell ⟨g, 1, none⟩ (.int .u32 0)).setCell ⟨g, 2, none⟩ (.int .u32 0)).setCell ⟨g, 3, none⟩ (.int .u64 0)).setCell ⟨g, 4, none⟩ (.int .u64 0)).setCell ⟨g, 5, none⟩ (.int .u32 0)).setCell ⟨g, 6, none⟩ (.int .i64 0)).setCell ⟨g, 7, none⟩ (.bool false)).setCell ⟨g, 8, none⟩ (.int .i64 0)).setCell ⟨g, 9, none⟩ (.slice none 0 0)).setCell ⟨g, 10, none⟩ (.slice none 0 0)) := rfl

theorem Own.putsOther {w : World} {B : Nat} {v : Value} {l : List Nat} {b : Nat} (h : Own w B v l) (hb : some b ≠ v.ownBlock) (vs : List Value) (o : Nat) : Own (w.setCells b o vs) B v l := by
  induction vs generalizing w o with
  | nil => exact h
  | cons u r ih => exact ih (h.setOther (a := ⟨b, o, none⟩) hb u) (o + 1)

theorem results_cell_run {fn : Func} {p u : Tmp} {ty : TypeId} (h : fn.results = #[.cell p ty, .tmp u]) (tmps : Array Value) (w : World) (g : Nat) (cs : Array Value)
    (hp : tmps.getD p undef = .pointer (some ⟨g, 0, none⟩)) (hr : (loadVar ty ⟨g, 0, none⟩).run Try.prog w = .ok (.agg cs) w) :
    (results fn tmps).run Try.prog w = .ok (.tuple #[.agg cs, tmps.getD u undef]) w := by
  rw [results_cell_tmp h, hp]
  simp [asAddr, hr, Result.andThen]
set_option maxRecDepth 100000 in
theorem ret_E {fn : Func} {R : Ending → World → Prop} {a : Act} {w : World} {p u : Tmp} (g : Nat) (t : TypeId) (cs : Array Value) (h : fn.results = #[.cell p 29, .tmp u]) (hp : a.tmps.getD p undef = .pointer (some ⟨g, 0, none⟩)) (hg : Lies w g t cs) (hs : cs.size = 11) (hd : a.defers = [])
    (hR : R (.returned (.tuple #[.agg cs, a.tmps.getD u undef])) w) : bodyPost Try.prog fn R .ret a w :=
  bodyPost_ret (results_cell_run h _ _ g cs hp (run_loadVar_row w g t 29 cs (0, 0) _ hg Try.underlying29 rfl (by rw [hs]; kernel_rfl))) hd hR

end Go.Proofs.Ytfcfejmammohpaa
