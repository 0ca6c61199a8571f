/-
  The walk of NoteBare: for all notes.
-/
import Derived.Test.YtjjkjppaiejajaaBareWalk
import Derived.Test.YtjjkjppaiejajaaNIn
namespace Go.Proofs.Ytjjkjppaiejajaa
open Go.RowKit

set_option maxRecDepth 100000 in
set_option maxHeartbeats 1000000 in
theorem bare_long (e : Note) (A1 A2 : Option Addr) (c1 c2 : Nat) (z : Int) (w : World) (h : longE e = true) :
    Calls Try.prog 7 #[.agg (evs e (.slice A1 e.key.length c1) (.slice A2 e.data.length c2)), .int .i64 z] w fun x w' => x = .returned (.bool true) ∧ Below w.heap.size w w' := by
  have C1 := fun W => Lib.hid (long_any e A1 A2 c1 c2 W)
  rw [h] at C1
  generalize Value.slice A1 e.key.length c1 = K at *
  generalize Value.slice A2 e.data.length c2 = D at *
  have b0 := below1 w (.cells (evs e K D) 26)
  go_enter Try.func7, Try.ntmps7
  go_wp2_with fail
  with_reducible refine (C1 _).out.mono ?_
  rintro x w1 ⟨rfl, hb1⟩
  go_wp2_with fail
  with_reducible refine (known_any _).mono ?_
  rintro x w2 ⟨rfl, hb2⟩
  go_wp2
  go_ret
  have b1 := b0.trans (hb1.mono b0.size)
  exact ⟨rfl, b1.trans (hb2.mono b1.size)⟩

set_option maxRecDepth 100000 in
set_option maxHeartbeats 1000000 in
theorem bare_bad (e : Note) (A1 A2 : Option Addr) (c1 c2 : Nat) (z : Int) (w : World) (h : longE e = false) (hok : ¬ Ent.ok e = true) :
    Calls Try.prog 7 #[.agg (evs e (.slice A1 e.key.length c1) (.slice A2 e.data.length c2)), .int .i64 z] w fun x w' => x = .returned (.bool true) ∧ Below w.heap.size w w' := by
  have C1 := fun W => Lib.hid (long_any e A1 A2 c1 c2 W)
  rw [h] at C1
  have CC := Lib.hid (fun W => check_any e A1 A2 c1 c2 W)
  unfold ChkPost at CC
  rw [show chkN e = 50 from by unfold chkN; rw [if_neg hok]] at CC
  generalize Value.slice A1 e.key.length c1 = K at *
  generalize Value.slice A2 e.data.length c2 = D at *
  have b0 := below1 w (.cells (evs e K D) 26)
  clear hok
  go_enter Try.func7, Try.ntmps7
  go_wp2_with fail
  with_reducible refine (C1 _).out.mono ?_
  rintro x w1 ⟨rfl, hb1⟩
  have L1 := (Lies.made w 26 (evs e K D)).below hb1 (by simp)
  have b1 := b0.trans (hb1.mono b0.size)
  obtain ⟨e0, e1, e2, e3, e4, e5, e6, e7, e8, e9, e10⟩ := L1.cellsE
  clear L1 b0 hb1
  go_wp2_with fail
  with_reducible refine (CC.out _).mono ?_
  rintro x w2 ⟨rfl, hb2⟩
  clear e0 e1 e2 e3 e4 e5 e6 e7 e8 e9 e10
  go_wp2_with fail
  with_reducible refine (known_any _).mono ?_
  rintro x w3 ⟨rfl, hb3⟩
  go_wp2
  go_ret
  have b2 := b1.trans (hb2.mono b1.size)
  exact ⟨rfl, b2.trans (hb3.mono b2.size)⟩

theorem noteBare_walk (e : Note) (A1 A2 : Option Addr) (c1 c2 : Nat) (z : Int) (w : World) (_hV : EntV w e A1 A2 c1 c2) (_hz : (Lit.int .i64 z).wf = true) :
    Calls Try.prog 7 #[.agg (evs e (.slice A1 e.key.length c1) (.slice A2 e.data.length c2)), .int .i64 z] w fun x w' => x = .returned (.bool true) ∧ Below w.heap.size w w' := by
  cases hl : longE e
  · by_cases hok : Ent.ok e = true
    · exact bare_good e A1 A2 c1 c2 z w hl hok
    · exact bare_bad e A1 A2 c1 c2 z w hl hok
  · exact bare_long e A1 A2 c1 c2 z w hl

end Go.Proofs.Ytjjkjppaiejajaa
