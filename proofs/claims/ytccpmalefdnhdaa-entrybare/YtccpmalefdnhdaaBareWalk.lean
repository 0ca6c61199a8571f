/-
  The walk of EntryBare, out of the contracts.
-/
import Derived.Test.YtccpmalefdnhdaaLongFn
import Derived.Test.YtccpmalefdnhdaaIn
namespace Go.Proofs.Ytccpmalefdnhdaa
open Go.RowKit
set_option linter.unusedVariables false

theorem beyond_any (z : Int) (w : World) : Calls Try.prog 25 #[.int .i64 z] w fun x w' => (∃ b : Int, x = .returned (.int .i64 b) ∧ (b < 1 ∨ 7 < b)) ∧ w = w' := by
  by_cases h : z < 0
  · go_enter Try.func25, Try.ntmps25
    go_wp2
    all_goals
      go_ret
      exact ⟨⟨_, rfl, by omega⟩, rfl⟩
  · go_enter Try.func25, Try.ntmps25
    go_wp2
    all_goals
      go_ret
      exact ⟨⟨_, rfl, by omega⟩, rfl⟩

theorem chk40 {x : Entry} (h : ¬ Ent.Ok x) : chkN x = 40 := by unfold chkN; rw [if_neg (fun hh => h ((Ent.ok_iff x).1 hh))]

set_option maxRecDepth 100000 in
set_option maxHeartbeats 8000000 in
theorem bare0 (e : Entry) (A1 A2 : Option Addr) (c1 c2 : Nat) (z : Int) (w : World) (hV : EntV w e A1 A2 c1 c2) (hlong : longE e = false) (hok : Ent.Ok e) (u : Nat) (hu : IntKind.u64.wrap z = (u : Int)) (hm : ((u : Nat) : Int) % 8 = 0) :
    Calls Try.prog 6 #[.agg (evs e (.slice A1 e.key.length c1) (.slice A2 e.data.length c2)), .int .i64 z] w fun x w' => x = .returned (.bool true) ∧ Below w.heap.size w w' := by
  have C1 := fun W => Lib.hid (long_any e A1 A2 c1 c2 W)
  rw [hlong] at C1
  have CC := Lib.hid (fun W => check_any e A1 A2 c1 c2 W)
  unfold ChkPost at CC
  rw [show chkN e = 0 from by unfold chkN; rw [if_pos ((Ent.ok_iff e).2 hok)]] at CC
  obtain ⟨n1, hn1⟩ : ∃ n, e.key.length = n := ⟨_, rfl⟩
  obtain ⟨n2, hn2⟩ : ∃ n, e.data.length = n := ⟨_, rfl⟩
  simp only [hn1, hn2] at C1 CC
  rw [hn1, hn2]
  have b0 := (Below.refl w.heap.size w).alloc (Nat.le_refl _) (.cells (evs e (.slice A1 n1 c1) (.slice A2 n2 c2)) 26)
  obtain ⟨kd, hkd⟩ : ∃ k, e.kind = k := ⟨_, rfl⟩
  have hzero : ((kd < 2) ∨ (5 < kd)) → e.order = 0 := fun hc => by
    have h1 := hok.o
    rw [hkd] at h1
    have h2 : Ent.hasO kd = false := by unfold Ent.hasO; rw [decide_eq_false_iff_not]; omega
    rw [h2] at h1
    unfold Ent.fitO at h1
    simp at h1
    omega
  have hbad : ((kd < 2) ∨ (5 < kd)) → chkN { e with order := 1 } = 40 := fun hc => chk40 (fun hh => by
    have h1 := hh.o
    simp only at h1
    rw [hkd] at h1
    have h2 : Ent.hasO kd = false := by unfold Ent.hasO; rw [decide_eq_false_iff_not]; omega
    rw [h2] at h1
    unfold Ent.fitO at h1
    simp at h1)
  have cx : ((kd < 2) ∨ (5 < kd)) → ∀ (W : World), Calls Try.prog 15 #[.agg #[.int .i64 kd, .int .u64 (e.lsn : Nat), .int .u32 (e.epoch : Nat), .int .u32 1, .int .i64 e.step, .bool e.undo, .int .i64 e.tri, .int .i64 e.code, .int .u64 (e.mark : Nat), .slice A1 n1 c1, .slice A2 n2 c2]] W fun x w' => x = .returned (.int .i64 40) ∧ Below W.heap.size W w' := fun hc W => by
    have := check_any { e with order := 1 } A1 A2 c1 c2 W
    unfold ChkPost at this
    rw [hbad hc] at this
    subst hkd
    rw [← hn1, ← hn2]
    exact this
  have CX := Lib.hid cx
  have HZ := Lib.hid hzero
  clear cx hzero hbad
  have HKD := Lib.hid hkd
  clear hn1 hn2 hok hkd
  go_enter Try.func6, Try.ntmps6
  go_wp2_with fail
  with_reducible refine (C1 _).out.mono ?_
  rintro x w1 ⟨rfl, hb1⟩
  have L1 := (Lies.made w 26 (evs e (.slice A1 n1 c1) (.slice A2 n2 c2))).below hb1 (by simp)
  have b1 := b0.trans (hb1.mono b0.size)
  obtain ⟨e0, e1, e2, e3, e4, e5, e6, e7, e8, e9, e10⟩ := L1.cellsE
  have BB1 := Lib.hid b1
  have HL1 := Lib.hid L1
  clear L1 b1 b0 hb1 C1
  go_wp2_with fail
  with_reducible refine (CC.out _).mono ?_
  rintro x w2 ⟨rfl, hb2⟩
  have L2 := HL1.out.below hb2 HL1.out.lt
  have BB2 := Lib.hid (BB1.out.trans (hb2.mono BB1.out.size))
  clear e0 e1 e2 e3 e4 e5 e6 e7 e8 e9 e10
  obtain ⟨e0, e1, e2, e3, e4, e5, e6, e7, e8, e9, e10⟩ := L2.cellsE
  have hlt := L2.lt
  have hne : w.heap.size ≠ w2.heap.size := by omega
  rw [HKD.out] at e0
  clear L2 HKD hb2 BB1 HL1 CC
  have hall : (2 ≤ kd ∧ kd ≤ 5) ∨ (kd < 2) ∨ (5 < kd) := by omega
  rcases hall with hc | hc | hc
  · go_wp2_with fail
    all_goals
      (with_reducible refine (known_any _).mono ?_)
      rintro x wk ⟨rfl, hbk⟩
      go_wp2
      go_ret
      exact ⟨rfl, (BB2.out.alloc BB2.out.size _).trans (hbk.mono (Nat.le_trans BB2.out.size (by simp)))⟩
  · have hz1 := HZ.out (.inl hc)
    have CXX := Lib.hid (CX.out (.inl hc))
    rw [hz1, show ((0 : Nat) : Int) = 0 from rfl] at e3
    clear hz1 CX HZ
    go_wp2_with fail
    with_reducible refine (CXX.out _).mono ?_
    rintro x w5 ⟨rfl, hb5⟩
    go_wp2_with fail
    with_reducible refine (known_any _).mono ?_
    rintro x wk ⟨rfl, hbk⟩
    go_wp2
    go_ret
    have bx := (BB2.out.alloc BB2.out.size _).trans (hb5.mono (Nat.le_trans BB2.out.size (by simp)))
    exact ⟨rfl, bx.trans (hbk.mono bx.size)⟩
  · have hz1 := HZ.out (.inr hc)
    have CXX := Lib.hid (CX.out (.inr hc))
    rw [hz1, show ((0 : Nat) : Int) = 0 from rfl] at e3
    clear hz1 CX HZ
    go_wp2_with fail
    with_reducible refine (CXX.out _).mono ?_
    rintro x w5 ⟨rfl, hb5⟩
    go_wp2_with fail
    with_reducible refine (known_any _).mono ?_
    rintro x wk ⟨rfl, hbk⟩
    go_wp2
    go_ret
    have bx := (BB2.out.alloc BB2.out.size _).trans (hb5.mono (Nat.le_trans BB2.out.size (by simp)))
    exact ⟨rfl, bx.trans (hbk.mono bx.size)⟩

set_option maxRecDepth 100000 in
set_option maxHeartbeats 8000000 in
theorem bare1 (e : Entry) (A1 A2 : Option Addr) (c1 c2 : Nat) (z : Int) (w : World) (hV : EntV w e A1 A2 c1 c2) (hlong : longE e = false) (hok : Ent.Ok e) (u : Nat) (hu : IntKind.u64.wrap z = (u : Int)) (hm : ((u : Nat) : Int) % 8 = 1) :
    Calls Try.prog 6 #[.agg (evs e (.slice A1 e.key.length c1) (.slice A2 e.data.length c2)), .int .i64 z] w fun x w' => x = .returned (.bool true) ∧ Below w.heap.size w w' := by
  have C1 := fun W => Lib.hid (long_any e A1 A2 c1 c2 W)
  rw [hlong] at C1
  have CC := Lib.hid (fun W => check_any e A1 A2 c1 c2 W)
  unfold ChkPost at CC
  rw [show chkN e = 0 from by unfold chkN; rw [if_pos ((Ent.ok_iff e).2 hok)]] at CC
  obtain ⟨n1, hn1⟩ : ∃ n, e.key.length = n := ⟨_, rfl⟩
  obtain ⟨n2, hn2⟩ : ∃ n, e.data.length = n := ⟨_, rfl⟩
  simp only [hn1, hn2] at C1 CC
  rw [hn1, hn2]
  have b0 := (Below.refl w.heap.size w).alloc (Nat.le_refl _) (.cells (evs e (.slice A1 n1 c1) (.slice A2 n2 c2)) 26)
  obtain ⟨kd, hkd⟩ : ∃ k, e.kind = k := ⟨_, rfl⟩
  have hzero : ((¬ (kd = 3 ∨ kd = 4))) → e.step = 0 := fun hc => by
    have h1 := hok.s
    rw [hkd] at h1
    have h2 : Ent.hasS kd = false := by unfold Ent.hasS; rw [decide_eq_false_iff_not]; omega
    rw [h2] at h1
    unfold Ent.fitS at h1
    simp at h1
    exact h1.1
  have hbad : ((¬ (kd = 3 ∨ kd = 4))) → chkN { e with step := 1 } = 40 := fun hc => chk40 (fun hh => by
    have h1 := hh.s
    simp only at h1
    rw [hkd] at h1
    have h2 : Ent.hasS kd = false := by unfold Ent.hasS; rw [decide_eq_false_iff_not]; omega
    rw [h2] at h1
    unfold Ent.fitS at h1
    simp at h1)
  have cx : ((¬ (kd = 3 ∨ kd = 4))) → ∀ (W : World), Calls Try.prog 15 #[.agg #[.int .i64 kd, .int .u64 (e.lsn : Nat), .int .u32 (e.epoch : Nat), .int .u32 (e.order : Nat), .int .i64 1, .bool e.undo, .int .i64 e.tri, .int .i64 e.code, .int .u64 (e.mark : Nat), .slice A1 n1 c1, .slice A2 n2 c2]] W fun x w' => x = .returned (.int .i64 40) ∧ Below W.heap.size W w' := fun hc W => by
    have := check_any { e with step := 1 } A1 A2 c1 c2 W
    unfold ChkPost at this
    rw [hbad hc] at this
    subst hkd
    rw [← hn1, ← hn2]
    exact this
  have CX := Lib.hid cx
  have HZ := Lib.hid hzero
  clear cx hzero hbad
  have HKD := Lib.hid hkd
  clear hn1 hn2 hok hkd
  go_enter Try.func6, Try.ntmps6
  go_wp2_with fail
  with_reducible refine (C1 _).out.mono ?_
  rintro x w1 ⟨rfl, hb1⟩
  have L1 := (Lies.made w 26 (evs e (.slice A1 n1 c1) (.slice A2 n2 c2))).below hb1 (by simp)
  have b1 := b0.trans (hb1.mono b0.size)
  obtain ⟨e0, e1, e2, e3, e4, e5, e6, e7, e8, e9, e10⟩ := L1.cellsE
  have BB1 := Lib.hid b1
  have HL1 := Lib.hid L1
  clear L1 b1 b0 hb1 C1
  go_wp2_with fail
  with_reducible refine (CC.out _).mono ?_
  rintro x w2 ⟨rfl, hb2⟩
  have L2 := HL1.out.below hb2 HL1.out.lt
  have BB2 := Lib.hid (BB1.out.trans (hb2.mono BB1.out.size))
  clear e0 e1 e2 e3 e4 e5 e6 e7 e8 e9 e10
  obtain ⟨e0, e1, e2, e3, e4, e5, e6, e7, e8, e9, e10⟩ := L2.cellsE
  have hlt := L2.lt
  have hne : w.heap.size ≠ w2.heap.size := by omega
  rw [HKD.out] at e0
  clear L2 HKD hb2 BB1 HL1 CC
  have hall : (kd = 3) ∨ (kd = 4) ∨ (¬ (kd = 3 ∨ kd = 4)) := by omega
  rcases hall with hc | hc | hc
  · subst hc
    go_wp2_with fail
    all_goals
      (with_reducible refine (known_any _).mono ?_)
      rintro x wk ⟨rfl, hbk⟩
      go_wp2
      go_ret
      exact ⟨rfl, (BB2.out.alloc BB2.out.size _).trans (hbk.mono (Nat.le_trans BB2.out.size (by simp)))⟩
  · subst hc
    go_wp2_with fail
    all_goals
      (with_reducible refine (known_any _).mono ?_)
      rintro x wk ⟨rfl, hbk⟩
      go_wp2
      go_ret
      exact ⟨rfl, (BB2.out.alloc BB2.out.size _).trans (hbk.mono (Nat.le_trans BB2.out.size (by simp)))⟩
  · have hz1 := HZ.out hc
    have CXX := Lib.hid (CX.out hc)
    rw [hz1] at e4
    clear hz1 CX HZ
    have hk3 : (kd == 3) = false := by rw [beq_eq_false_iff_ne]; omega
    have hk4 : (kd == 4) = false := by rw [beq_eq_false_iff_ne]; omega
    go_wp2_with fail
    with_reducible refine (CXX.out _).mono ?_
    rintro x w5 ⟨rfl, hb5⟩
    go_wp2_with fail
    with_reducible refine (known_any _).mono ?_
    rintro x wk ⟨rfl, hbk⟩
    go_wp2
    go_ret
    have bx := (BB2.out.alloc BB2.out.size _).trans (hb5.mono (Nat.le_trans BB2.out.size (by simp)))
    exact ⟨rfl, bx.trans (hbk.mono bx.size)⟩

set_option maxRecDepth 100000 in
set_option maxHeartbeats 8000000 in
theorem bare2 (e : Entry) (A1 A2 : Option Addr) (c1 c2 : Nat) (z : Int) (w : World) (hV : EntV w e A1 A2 c1 c2) (hlong : longE e = false) (hok : Ent.Ok e) (u : Nat) (hu : IntKind.u64.wrap z = (u : Int)) (hm : ((u : Nat) : Int) % 8 = 2) :
    Calls Try.prog 6 #[.agg (evs e (.slice A1 e.key.length c1) (.slice A2 e.data.length c2)), .int .i64 z] w fun x w' => x = .returned (.bool true) ∧ Below w.heap.size w w' := by
  have C1 := fun W => Lib.hid (long_any e A1 A2 c1 c2 W)
  rw [hlong] at C1
  have CC := Lib.hid (fun W => check_any e A1 A2 c1 c2 W)
  unfold ChkPost at CC
  rw [show chkN e = 0 from by unfold chkN; rw [if_pos ((Ent.ok_iff e).2 hok)]] at CC
  obtain ⟨n1, hn1⟩ : ∃ n, e.key.length = n := ⟨_, rfl⟩
  obtain ⟨n2, hn2⟩ : ∃ n, e.data.length = n := ⟨_, rfl⟩
  simp only [hn1, hn2] at C1 CC
  rw [hn1, hn2]
  have b0 := (Below.refl w.heap.size w).alloc (Nat.le_refl _) (.cells (evs e (.slice A1 n1 c1) (.slice A2 n2 c2)) 26)
  obtain ⟨kd, hkd⟩ : ∃ k, e.kind = k := ⟨_, rfl⟩
  have hzero : ((¬ (kd = 3 ∨ kd = 4))) → e.undo = false := fun hc => by
    have h1 := hok.s
    rw [hkd] at h1
    have h2 : Ent.hasS kd = false := by unfold Ent.hasS; rw [decide_eq_false_iff_not]; omega
    rw [h2] at h1
    unfold Ent.fitS at h1
    simp at h1
    exact h1.2.1
  have hbad : ((¬ (kd = 3 ∨ kd = 4))) → chkN { e with undo := true } = 40 := fun hc => chk40 (fun hh => by
    have h1 := hh.s
    simp only at h1
    rw [hkd] at h1
    have h2 : Ent.hasS kd = false := by unfold Ent.hasS; rw [decide_eq_false_iff_not]; omega
    rw [h2] at h1
    unfold Ent.fitS at h1
    simp at h1)
  have cx : ((¬ (kd = 3 ∨ kd = 4))) → ∀ (W : World), Calls Try.prog 15 #[.agg #[.int .i64 kd, .int .u64 (e.lsn : Nat), .int .u32 (e.epoch : Nat), .int .u32 (e.order : Nat), .int .i64 e.step, .bool true, .int .i64 e.tri, .int .i64 e.code, .int .u64 (e.mark : Nat), .slice A1 n1 c1, .slice A2 n2 c2]] W fun x w' => x = .returned (.int .i64 40) ∧ Below W.heap.size W w' := fun hc W => by
    have := check_any { e with undo := true } A1 A2 c1 c2 W
    unfold ChkPost at this
    rw [hbad hc] at this
    subst hkd
    rw [← hn1, ← hn2]
    exact this
  have CX := Lib.hid cx
  have HZ := Lib.hid hzero
  clear cx hzero hbad
  have HKD := Lib.hid hkd
  clear hn1 hn2 hok hkd
  go_enter Try.func6, Try.ntmps6
  go_wp2_with fail
  with_reducible refine (C1 _).out.mono ?_
  rintro x w1 ⟨rfl, hb1⟩
  have L1 := (Lies.made w 26 (evs e (.slice A1 n1 c1) (.slice A2 n2 c2))).below hb1 (by simp)
  have b1 := b0.trans (hb1.mono b0.size)
  obtain ⟨e0, e1, e2, e3, e4, e5, e6, e7, e8, e9, e10⟩ := L1.cellsE
  have BB1 := Lib.hid b1
  have HL1 := Lib.hid L1
  clear L1 b1 b0 hb1 C1
  go_wp2_with fail
  with_reducible refine (CC.out _).mono ?_
  rintro x w2 ⟨rfl, hb2⟩
  have L2 := HL1.out.below hb2 HL1.out.lt
  have BB2 := Lib.hid (BB1.out.trans (hb2.mono BB1.out.size))
  clear e0 e1 e2 e3 e4 e5 e6 e7 e8 e9 e10
  obtain ⟨e0, e1, e2, e3, e4, e5, e6, e7, e8, e9, e10⟩ := L2.cellsE
  have hlt := L2.lt
  have hne : w.heap.size ≠ w2.heap.size := by omega
  rw [HKD.out] at e0
  clear L2 HKD hb2 BB1 HL1 CC
  have hall : (kd = 3) ∨ (kd = 4) ∨ (¬ (kd = 3 ∨ kd = 4)) := by omega
  rcases hall with hc | hc | hc
  · subst hc
    go_wp2_with fail
    all_goals
      (with_reducible refine (known_any _).mono ?_)
      rintro x wk ⟨rfl, hbk⟩
      go_wp2
      go_ret
      exact ⟨rfl, (BB2.out.alloc BB2.out.size _).trans (hbk.mono (Nat.le_trans BB2.out.size (by simp)))⟩
  · subst hc
    go_wp2_with fail
    all_goals
      (with_reducible refine (known_any _).mono ?_)
      rintro x wk ⟨rfl, hbk⟩
      go_wp2
      go_ret
      exact ⟨rfl, (BB2.out.alloc BB2.out.size _).trans (hbk.mono (Nat.le_trans BB2.out.size (by simp)))⟩
  · have hz1 := HZ.out hc
    have CXX := Lib.hid (CX.out hc)
    rw [hz1] at e5
    clear hz1 CX HZ
    have hk3 : (kd == 3) = false := by rw [beq_eq_false_iff_ne]; omega
    have hk4 : (kd == 4) = false := by rw [beq_eq_false_iff_ne]; omega
    go_wp2_with fail
    with_reducible refine (CXX.out _).mono ?_
    rintro x w5 ⟨rfl, hb5⟩
    go_wp2_with fail
    with_reducible refine (known_any _).mono ?_
    rintro x wk ⟨rfl, hbk⟩
    go_wp2
    go_ret
    have bx := (BB2.out.alloc BB2.out.size _).trans (hb5.mono (Nat.le_trans BB2.out.size (by simp)))
    exact ⟨rfl, bx.trans (hbk.mono bx.size)⟩

set_option maxRecDepth 100000 in
set_option maxHeartbeats 8000000 in
theorem bare3 (e : Entry) (A1 A2 : Option Addr) (c1 c2 : Nat) (z : Int) (w : World) (hV : EntV w e A1 A2 c1 c2) (hlong : longE e = false) (hok : Ent.Ok e) (u : Nat) (hu : IntKind.u64.wrap z = (u : Int)) (hm : ((u : Nat) : Int) % 8 = 3) :
    Calls Try.prog 6 #[.agg (evs e (.slice A1 e.key.length c1) (.slice A2 e.data.length c2)), .int .i64 z] w fun x w' => x = .returned (.bool true) ∧ Below w.heap.size w w' := by
  have C1 := fun W => Lib.hid (long_any e A1 A2 c1 c2 W)
  rw [hlong] at C1
  have CC := Lib.hid (fun W => check_any e A1 A2 c1 c2 W)
  unfold ChkPost at CC
  rw [show chkN e = 0 from by unfold chkN; rw [if_pos ((Ent.ok_iff e).2 hok)]] at CC
  obtain ⟨n1, hn1⟩ : ∃ n, e.key.length = n := ⟨_, rfl⟩
  obtain ⟨n2, hn2⟩ : ∃ n, e.data.length = n := ⟨_, rfl⟩
  simp only [hn1, hn2] at C1 CC
  rw [hn1, hn2]
  have b0 := (Below.refl w.heap.size w).alloc (Nat.le_refl _) (.cells (evs e (.slice A1 n1 c1) (.slice A2 n2 c2)) 26)
  obtain ⟨kd, hkd⟩ : ∃ k, e.kind = k := ⟨_, rfl⟩
  have hzero : ((¬ (kd = 3 ∨ kd = 4))) → e.tri = 0 := fun hc => by
    have h1 := hok.s
    rw [hkd] at h1
    have h2 : Ent.hasS kd = false := by unfold Ent.hasS; rw [decide_eq_false_iff_not]; omega
    rw [h2] at h1
    unfold Ent.fitS at h1
    simp at h1
    exact h1.2.2
  have hbad : ((¬ (kd = 3 ∨ kd = 4))) → chkN { e with tri := 1 } = 40 := fun hc => chk40 (fun hh => by
    have h1 := hh.s
    simp only at h1
    rw [hkd] at h1
    have h2 : Ent.hasS kd = false := by unfold Ent.hasS; rw [decide_eq_false_iff_not]; omega
    rw [h2] at h1
    unfold Ent.fitS at h1
    simp at h1)
  have cx : ((¬ (kd = 3 ∨ kd = 4))) → ∀ (W : World), Calls Try.prog 15 #[.agg #[.int .i64 kd, .int .u64 (e.lsn : Nat), .int .u32 (e.epoch : Nat), .int .u32 (e.order : Nat), .int .i64 e.step, .bool e.undo, .int .i64 1, .int .i64 e.code, .int .u64 (e.mark : Nat), .slice A1 n1 c1, .slice A2 n2 c2]] W fun x w' => x = .returned (.int .i64 40) ∧ Below W.heap.size W w' := fun hc W => by
    have := check_any { e with tri := 1 } A1 A2 c1 c2 W
    unfold ChkPost at this
    rw [hbad hc] at this
    subst hkd
    rw [← hn1, ← hn2]
    exact this
  have CX := Lib.hid cx
  have HZ := Lib.hid hzero
  clear cx hzero hbad
  have HKD := Lib.hid hkd
  clear hn1 hn2 hok hkd
  go_enter Try.func6, Try.ntmps6
  go_wp2_with fail
  with_reducible refine (C1 _).out.mono ?_
  rintro x w1 ⟨rfl, hb1⟩
  have L1 := (Lies.made w 26 (evs e (.slice A1 n1 c1) (.slice A2 n2 c2))).below hb1 (by simp)
  have b1 := b0.trans (hb1.mono b0.size)
  obtain ⟨e0, e1, e2, e3, e4, e5, e6, e7, e8, e9, e10⟩ := L1.cellsE
  have BB1 := Lib.hid b1
  have HL1 := Lib.hid L1
  clear L1 b1 b0 hb1 C1
  go_wp2_with fail
  with_reducible refine (CC.out _).mono ?_
  rintro x w2 ⟨rfl, hb2⟩
  have L2 := HL1.out.below hb2 HL1.out.lt
  have BB2 := Lib.hid (BB1.out.trans (hb2.mono BB1.out.size))
  clear e0 e1 e2 e3 e4 e5 e6 e7 e8 e9 e10
  obtain ⟨e0, e1, e2, e3, e4, e5, e6, e7, e8, e9, e10⟩ := L2.cellsE
  have hlt := L2.lt
  have hne : w.heap.size ≠ w2.heap.size := by omega
  rw [HKD.out] at e0
  clear L2 HKD hb2 BB1 HL1 CC
  have hall : (kd = 3) ∨ (kd = 4) ∨ (¬ (kd = 3 ∨ kd = 4)) := by omega
  rcases hall with hc | hc | hc
  · subst hc
    go_wp2_with fail
    all_goals
      (with_reducible refine (known_any _).mono ?_)
      rintro x wk ⟨rfl, hbk⟩
      go_wp2
      go_ret
      exact ⟨rfl, (BB2.out.alloc BB2.out.size _).trans (hbk.mono (Nat.le_trans BB2.out.size (by simp)))⟩
  · subst hc
    go_wp2_with fail
    all_goals
      (with_reducible refine (known_any _).mono ?_)
      rintro x wk ⟨rfl, hbk⟩
      go_wp2
      go_ret
      exact ⟨rfl, (BB2.out.alloc BB2.out.size _).trans (hbk.mono (Nat.le_trans BB2.out.size (by simp)))⟩
  · have hz1 := HZ.out hc
    have CXX := Lib.hid (CX.out hc)
    rw [hz1] at e6
    clear hz1 CX HZ
    have hk3 : (kd == 3) = false := by rw [beq_eq_false_iff_ne]; omega
    have hk4 : (kd == 4) = false := by rw [beq_eq_false_iff_ne]; omega
    go_wp2_with fail
    with_reducible refine (CXX.out _).mono ?_
    rintro x w5 ⟨rfl, hb5⟩
    go_wp2_with fail
    with_reducible refine (known_any _).mono ?_
    rintro x wk ⟨rfl, hbk⟩
    go_wp2
    go_ret
    have bx := (BB2.out.alloc BB2.out.size _).trans (hb5.mono (Nat.le_trans BB2.out.size (by simp)))
    exact ⟨rfl, bx.trans (hbk.mono bx.size)⟩

set_option maxRecDepth 100000 in
set_option maxHeartbeats 8000000 in
theorem bare4 (e : Entry) (A1 A2 : Option Addr) (c1 c2 : Nat) (z : Int) (w : World) (hV : EntV w e A1 A2 c1 c2) (hlong : longE e = false) (hok : Ent.Ok e) (u : Nat) (hu : IntKind.u64.wrap z = (u : Int)) (hm : ((u : Nat) : Int) % 8 = 4) :
    Calls Try.prog 6 #[.agg (evs e (.slice A1 e.key.length c1) (.slice A2 e.data.length c2)), .int .i64 z] w fun x w' => x = .returned (.bool true) ∧ Below w.heap.size w w' := by
  have C1 := fun W => Lib.hid (long_any e A1 A2 c1 c2 W)
  rw [hlong] at C1
  have CC := Lib.hid (fun W => check_any e A1 A2 c1 c2 W)
  unfold ChkPost at CC
  rw [show chkN e = 0 from by unfold chkN; rw [if_pos ((Ent.ok_iff e).2 hok)]] at CC
  obtain ⟨n1, hn1⟩ : ∃ n, e.key.length = n := ⟨_, rfl⟩
  obtain ⟨n2, hn2⟩ : ∃ n, e.data.length = n := ⟨_, rfl⟩
  simp only [hn1, hn2] at C1 CC
  rw [hn1, hn2]
  have b0 := (Below.refl w.heap.size w).alloc (Nat.le_refl _) (.cells (evs e (.slice A1 n1 c1) (.slice A2 n2 c2)) 26)
  obtain ⟨kd, hkd⟩ : ∃ k, e.kind = k := ⟨_, rfl⟩
  have hzero : ((kd < 4) ∨ (6 < kd)) → e.code = 0 := fun hc => by
    have h1 := hok.c
    rw [hkd] at h1
    have h2 : Ent.codes kd = 0 := by unfold Ent.codes; rw [if_neg (by omega), if_neg (by omega)]
    rw [h2] at h1
    unfold Ent.fitC at h1
    simp at h1
    omega
  have hbad : ((kd < 4) ∨ (6 < kd)) → chkN { e with code := 1 } = 40 := fun hc => chk40 (fun hh => by
    have h1 := hh.c
    simp only at h1
    rw [hkd] at h1
    have h2 : Ent.codes kd = 0 := by unfold Ent.codes; rw [if_neg (by omega), if_neg (by omega)]
    rw [h2] at h1
    unfold Ent.fitC at h1
    simp at h1)
  have cx : ((kd < 4) ∨ (6 < kd)) → ∀ (W : World), Calls Try.prog 15 #[.agg #[.int .i64 kd, .int .u64 (e.lsn : Nat), .int .u32 (e.epoch : Nat), .int .u32 (e.order : Nat), .int .i64 e.step, .bool e.undo, .int .i64 e.tri, .int .i64 1, .int .u64 (e.mark : Nat), .slice A1 n1 c1, .slice A2 n2 c2]] W fun x w' => x = .returned (.int .i64 40) ∧ Below W.heap.size W w' := fun hc W => by
    have := check_any { e with code := 1 } A1 A2 c1 c2 W
    unfold ChkPost at this
    rw [hbad hc] at this
    subst hkd
    rw [← hn1, ← hn2]
    exact this
  have CX := Lib.hid cx
  have HZ := Lib.hid hzero
  clear cx hzero hbad
  have HKD := Lib.hid hkd
  clear hn1 hn2 hok hkd
  go_enter Try.func6, Try.ntmps6
  go_wp2_with fail
  with_reducible refine (C1 _).out.mono ?_
  rintro x w1 ⟨rfl, hb1⟩
  have L1 := (Lies.made w 26 (evs e (.slice A1 n1 c1) (.slice A2 n2 c2))).below hb1 (by simp)
  have b1 := b0.trans (hb1.mono b0.size)
  obtain ⟨e0, e1, e2, e3, e4, e5, e6, e7, e8, e9, e10⟩ := L1.cellsE
  have BB1 := Lib.hid b1
  have HL1 := Lib.hid L1
  clear L1 b1 b0 hb1 C1
  go_wp2_with fail
  with_reducible refine (CC.out _).mono ?_
  rintro x w2 ⟨rfl, hb2⟩
  have L2 := HL1.out.below hb2 HL1.out.lt
  have BB2 := Lib.hid (BB1.out.trans (hb2.mono BB1.out.size))
  clear e0 e1 e2 e3 e4 e5 e6 e7 e8 e9 e10
  obtain ⟨e0, e1, e2, e3, e4, e5, e6, e7, e8, e9, e10⟩ := L2.cellsE
  have hlt := L2.lt
  have hne : w.heap.size ≠ w2.heap.size := by omega
  rw [HKD.out] at e0
  clear L2 HKD hb2 BB1 HL1 CC
  have hall : (4 ≤ kd ∧ kd ≤ 6) ∨ (kd < 4) ∨ (6 < kd) := by omega
  rcases hall with hc | hc | hc
  · go_wp2_with fail
    all_goals
      (with_reducible refine (known_any _).mono ?_)
      rintro x wk ⟨rfl, hbk⟩
      go_wp2
      go_ret
      exact ⟨rfl, (BB2.out.alloc BB2.out.size _).trans (hbk.mono (Nat.le_trans BB2.out.size (by simp)))⟩
  · have hz1 := HZ.out (.inl hc)
    have CXX := Lib.hid (CX.out (.inl hc))
    rw [hz1] at e7
    clear hz1 CX HZ
    go_wp2_with fail
    with_reducible refine (CXX.out _).mono ?_
    rintro x w5 ⟨rfl, hb5⟩
    go_wp2_with fail
    with_reducible refine (known_any _).mono ?_
    rintro x wk ⟨rfl, hbk⟩
    go_wp2
    go_ret
    have bx := (BB2.out.alloc BB2.out.size _).trans (hb5.mono (Nat.le_trans BB2.out.size (by simp)))
    exact ⟨rfl, bx.trans (hbk.mono bx.size)⟩
  · have hz1 := HZ.out (.inr hc)
    have CXX := Lib.hid (CX.out (.inr hc))
    rw [hz1] at e7
    clear hz1 CX HZ
    go_wp2_with fail
    with_reducible refine (CXX.out _).mono ?_
    rintro x w5 ⟨rfl, hb5⟩
    go_wp2_with fail
    with_reducible refine (known_any _).mono ?_
    rintro x wk ⟨rfl, hbk⟩
    go_wp2
    go_ret
    have bx := (BB2.out.alloc BB2.out.size _).trans (hb5.mono (Nat.le_trans BB2.out.size (by simp)))
    exact ⟨rfl, bx.trans (hbk.mono bx.size)⟩

set_option maxRecDepth 100000 in
set_option maxHeartbeats 8000000 in
theorem bare5 (e : Entry) (A1 A2 : Option Addr) (c1 c2 : Nat) (z : Int) (w : World) (hV : EntV w e A1 A2 c1 c2) (hlong : longE e = false) (hok : Ent.Ok e) (u : Nat) (hu : IntKind.u64.wrap z = (u : Int)) (hm : ((u : Nat) : Int) % 8 = 5) :
    Calls Try.prog 6 #[.agg (evs e (.slice A1 e.key.length c1) (.slice A2 e.data.length c2)), .int .i64 z] w fun x w' => x = .returned (.bool true) ∧ Below w.heap.size w w' := by
  have C1 := fun W => Lib.hid (long_any e A1 A2 c1 c2 W)
  rw [hlong] at C1
  have CC := Lib.hid (fun W => check_any e A1 A2 c1 c2 W)
  unfold ChkPost at CC
  rw [show chkN e = 0 from by unfold chkN; rw [if_pos ((Ent.ok_iff e).2 hok)]] at CC
  obtain ⟨n1, hn1⟩ : ∃ n, e.key.length = n := ⟨_, rfl⟩
  obtain ⟨n2, hn2⟩ : ∃ n, e.data.length = n := ⟨_, rfl⟩
  simp only [hn1, hn2] at C1 CC
  rw [hn1, hn2]
  have b0 := (Below.refl w.heap.size w).alloc (Nat.le_refl _) (.cells (evs e (.slice A1 n1 c1) (.slice A2 n2 c2)) 26)
  obtain ⟨kd, hkd⟩ : ∃ k, e.kind = k := ⟨_, rfl⟩
  have hzero : ((¬ kd = 7)) → e.mark = 0 := fun hc => by
    have h1 := hok.m
    rw [hkd] at h1
    have h2 : Ent.hasM kd = false := by unfold Ent.hasM; rw [decide_eq_false_iff_not]; omega
    rw [h2] at h1
    unfold Ent.fitM at h1
    simp at h1
    omega
  have hbad : ((¬ kd = 7)) → chkN { e with mark := 1 } = 40 := fun hc => chk40 (fun hh => by
    have h1 := hh.m
    simp only at h1
    rw [hkd] at h1
    have h2 : Ent.hasM kd = false := by unfold Ent.hasM; rw [decide_eq_false_iff_not]; omega
    rw [h2] at h1
    unfold Ent.fitM at h1
    simp at h1)
  have cx : ((¬ kd = 7)) → ∀ (W : World), Calls Try.prog 15 #[.agg #[.int .i64 kd, .int .u64 (e.lsn : Nat), .int .u32 (e.epoch : Nat), .int .u32 (e.order : Nat), .int .i64 e.step, .bool e.undo, .int .i64 e.tri, .int .i64 e.code, .int .u64 1, .slice A1 n1 c1, .slice A2 n2 c2]] W fun x w' => x = .returned (.int .i64 40) ∧ Below W.heap.size W w' := fun hc W => by
    have := check_any { e with mark := 1 } A1 A2 c1 c2 W
    unfold ChkPost at this
    rw [hbad hc] at this
    subst hkd
    rw [← hn1, ← hn2]
    exact this
  have CX := Lib.hid cx
  have HZ := Lib.hid hzero
  clear cx hzero hbad
  have HKD := Lib.hid hkd
  clear hn1 hn2 hok hkd
  go_enter Try.func6, Try.ntmps6
  go_wp2_with fail
  with_reducible refine (C1 _).out.mono ?_
  rintro x w1 ⟨rfl, hb1⟩
  have L1 := (Lies.made w 26 (evs e (.slice A1 n1 c1) (.slice A2 n2 c2))).below hb1 (by simp)
  have b1 := b0.trans (hb1.mono b0.size)
  obtain ⟨e0, e1, e2, e3, e4, e5, e6, e7, e8, e9, e10⟩ := L1.cellsE
  have BB1 := Lib.hid b1
  have HL1 := Lib.hid L1
  clear L1 b1 b0 hb1 C1
  go_wp2_with fail
  with_reducible refine (CC.out _).mono ?_
  rintro x w2 ⟨rfl, hb2⟩
  have L2 := HL1.out.below hb2 HL1.out.lt
  have BB2 := Lib.hid (BB1.out.trans (hb2.mono BB1.out.size))
  clear e0 e1 e2 e3 e4 e5 e6 e7 e8 e9 e10
  obtain ⟨e0, e1, e2, e3, e4, e5, e6, e7, e8, e9, e10⟩ := L2.cellsE
  have hlt := L2.lt
  have hne : w.heap.size ≠ w2.heap.size := by omega
  rw [HKD.out] at e0
  clear L2 HKD hb2 BB1 HL1 CC
  have hall : (kd = 7) ∨ (¬ kd = 7) := by omega
  rcases hall with hc | hc
  · subst hc
    go_wp2_with fail
    all_goals
      (with_reducible refine (known_any _).mono ?_)
      rintro x wk ⟨rfl, hbk⟩
      go_wp2
      go_ret
      exact ⟨rfl, (BB2.out.alloc BB2.out.size _).trans (hbk.mono (Nat.le_trans BB2.out.size (by simp)))⟩
  · have hz1 := HZ.out hc
    have CXX := Lib.hid (CX.out hc)
    rw [hz1, show ((0 : Nat) : Int) = 0 from rfl] at e8
    clear hz1 CX HZ
    have hk7 : (kd == 7) = false := by rw [beq_eq_false_iff_ne]; omega
    go_wp2_with fail
    with_reducible refine (CXX.out _).mono ?_
    rintro x w5 ⟨rfl, hb5⟩
    go_wp2_with fail
    with_reducible refine (known_any _).mono ?_
    rintro x wk ⟨rfl, hbk⟩
    go_wp2
    go_ret
    have bx := (BB2.out.alloc BB2.out.size _).trans (hb5.mono (Nat.le_trans BB2.out.size (by simp)))
    exact ⟨rfl, bx.trans (hbk.mono bx.size)⟩

set_option maxRecDepth 100000 in
set_option maxHeartbeats 8000000 in
theorem bare6 (e : Entry) (A1 A2 : Option Addr) (c1 c2 : Nat) (z : Int) (w : World) (hV : EntV w e A1 A2 c1 c2) (hlong : longE e = false) (hok : Ent.Ok e) (u : Nat) (hu : IntKind.u64.wrap z = (u : Int)) (hm : ((u : Nat) : Int) % 8 = 6) :
    Calls Try.prog 6 #[.agg (evs e (.slice A1 e.key.length c1) (.slice A2 e.data.length c2)), .int .i64 z] w fun x w' => x = .returned (.bool true) ∧ Below w.heap.size w w' := by
  have C1 := fun W => Lib.hid (long_any e A1 A2 c1 c2 W)
  rw [hlong] at C1
  have CC := Lib.hid (fun W => check_any e A1 A2 c1 c2 W)
  unfold ChkPost at CC
  rw [show chkN e = 0 from by unfold chkN; rw [if_pos ((Ent.ok_iff e).2 hok)]] at CC
  obtain ⟨n1, hn1⟩ : ∃ n, e.key.length = n := ⟨_, rfl⟩
  obtain ⟨n2, hn2⟩ : ∃ n, e.data.length = n := ⟨_, rfl⟩
  simp only [hn1, hn2] at C1 CC
  rw [hn1, hn2]
  have b0 := (Below.refl w.heap.size w).alloc (Nat.le_refl _) (.cells (evs e (.slice A1 n1 c1) (.slice A2 n2 c2)) 26)
  obtain ⟨kd, hkd⟩ : ∃ k, e.kind = k := ⟨_, rfl⟩
  have hzero : ((¬ kd = 2)) → e.key = [] := fun hc => by
    have h1 := hok.t
    rw [hkd] at h1
    have h2 : Ent.hasT kd = false := by unfold Ent.hasT; rw [decide_eq_false_iff_not]; omega
    rw [h2] at h1
    unfold Ent.fitT at h1
    simp at h1
    exact h1.1
  have hbad : ((¬ kd = 2)) → chkN { e with key := [107] } = 40 := fun hc => chk40 (fun hh => by
    have h1 := hh.t
    simp only at h1
    rw [hkd] at h1
    have h2 : Ent.hasT kd = false := by unfold Ent.hasT; rw [decide_eq_false_iff_not]; omega
    rw [h2] at h1
    unfold Ent.fitT at h1
    simp at h1)
  have cx : ((¬ kd = 2)) → ∀ (h : Nat) (W : World), Calls Try.prog 15 #[.agg #[.int .i64 kd, .int .u64 (e.lsn : Nat), .int .u32 (e.epoch : Nat), .int .u32 (e.order : Nat), .int .i64 e.step, .bool e.undo, .int .i64 e.tri, .int .i64 e.code, .int .u64 (e.mark : Nat), .slice (some ⟨h, 0, none⟩) 1 1, .slice A2 n2 c2]] W fun x w' => x = .returned (.int .i64 40) ∧ Below W.heap.size W w' := fun hc h W => by
    have := check_any { e with key := [107] } (some ⟨h, 0, none⟩) A2 1 c2 W
    unfold ChkPost at this
    rw [hbad hc] at this
    subst hkd
    rw [← hn2]
    exact this
  have CX := Lib.hid cx
  have HZ := Lib.hid hzero
  clear cx hzero hbad
  have HKD := Lib.hid hkd
  clear hn1 hn2 hok hkd
  go_enter Try.func6, Try.ntmps6
  go_wp2_with fail
  with_reducible refine (C1 _).out.mono ?_
  rintro x w1 ⟨rfl, hb1⟩
  have L1 := (Lies.made w 26 (evs e (.slice A1 n1 c1) (.slice A2 n2 c2))).below hb1 (by simp)
  have b1 := b0.trans (hb1.mono b0.size)
  obtain ⟨e0, e1, e2, e3, e4, e5, e6, e7, e8, e9, e10⟩ := L1.cellsE
  have BB1 := Lib.hid b1
  have HL1 := Lib.hid L1
  clear L1 b1 b0 hb1 C1
  go_wp2_with fail
  with_reducible refine (CC.out _).mono ?_
  rintro x w2 ⟨rfl, hb2⟩
  have L2 := HL1.out.below hb2 HL1.out.lt
  have BB2 := Lib.hid (BB1.out.trans (hb2.mono BB1.out.size))
  clear e0 e1 e2 e3 e4 e5 e6 e7 e8 e9 e10
  obtain ⟨e0, e1, e2, e3, e4, e5, e6, e7, e8, e9, e10⟩ := L2.cellsE
  have hlt := L2.lt
  have hne : w.heap.size ≠ w2.heap.size := by omega
  rw [HKD.out] at e0
  clear L2 HKD hb2 BB1 HL1 CC
  have bt : ∀ o p, Below w.heap.size w ((w2.alloc o).alloc p) := fun o p => (BB2.out.alloc BB2.out.size o).alloc (Nat.le_trans BB2.out.size (by simp)) p
  have kc : ∀ (C : Array Value) (n c : Nat) (o : Obj), (convert 24 24 (.slice (some ⟨w2.heap.size + 1, 0, none⟩) n c)).run Try.prog ((w2.alloc o).alloc (.cells C 5)) = .ok (.slice (some ⟨w2.heap.size + 1, 0, none⟩) n c) ((w2.alloc o).alloc (.cells C 5 (C.size, C.size + 1))) := fun C n c o => by
    have := Lib.run_convert_bytes_const (P := Try.prog) (w2.alloc o) 24 5 C n c Try.underlying24 Try.underlying5
    rw [size_one] at this
    exact this
  have hall : (kd = 2) ∨ (¬ kd = 2) := by omega
  rcases hall with hc | hc
  · subst hc
    go_wp2_with fail
    all_goals
      (with_reducible refine (known_any _).mono ?_)
      rintro x wk ⟨rfl, hbk⟩
      go_wp2
      go_ret
      have hsz := BB2.out.size
      exact ⟨rfl, (bt _ _).trans (hbk.mono (by simp; omega))⟩
  · have hz1 := HZ.out hc
    have CXX := Lib.hid (CX.out hc)
    clear hz1 CX HZ
    have hk2 : (kd == 2) = false := by rw [beq_eq_false_iff_ne]; omega
    go_wp2_with fail
    with_reducible refine (CXX.out _ _).mono ?_
    rintro x w5 ⟨rfl, hb5⟩
    go_wp2_with fail
    with_reducible refine (known_any _).mono ?_
    rintro x wk ⟨rfl, hbk⟩
    go_wp2
    go_ret
    have hsz := BB2.out.size
    have bx := (bt _ _).trans (hb5.mono (by simp; omega))
    exact ⟨rfl, bx.trans (hbk.mono bx.size)⟩

set_option maxRecDepth 100000 in
set_option maxHeartbeats 8000000 in
theorem bare7 (e : Entry) (A1 A2 : Option Addr) (c1 c2 : Nat) (z : Int) (w : World) (hV : EntV w e A1 A2 c1 c2) (hlong : longE e = false) (hok : Ent.Ok e) (u : Nat) (hu : IntKind.u64.wrap z = (u : Int)) (hm : ((u : Nat) : Int) % 8 = 7) :
    Calls Try.prog 6 #[.agg (evs e (.slice A1 e.key.length c1) (.slice A2 e.data.length c2)), .int .i64 z] w fun x w' => x = .returned (.bool true) ∧ Below w.heap.size w w' := by
  have C1 := fun W => Lib.hid (long_any e A1 A2 c1 c2 W)
  rw [hlong] at C1
  have CC := Lib.hid (fun W => check_any e A1 A2 c1 c2 W)
  unfold ChkPost at CC
  rw [show chkN e = 0 from by unfold chkN; rw [if_pos ((Ent.ok_iff e).2 hok)]] at CC
  obtain ⟨n1, hn1⟩ : ∃ n, e.key.length = n := ⟨_, rfl⟩
  obtain ⟨n2, hn2⟩ : ∃ n, e.data.length = n := ⟨_, rfl⟩
  simp only [hn1, hn2] at C1 CC
  rw [hn1, hn2]
  have b0 := (Below.refl w.heap.size w).alloc (Nat.le_refl _) (.cells (evs e (.slice A1 n1 c1) (.slice A2 n2 c2)) 26)
  obtain ⟨kd, hkd⟩ : ∃ k, e.kind = k := ⟨_, rfl⟩
  have cx : ∀ (b : Int), (b < 1 ∨ 7 < b) → ∀ W : World, Calls Try.prog 15 #[.agg #[.int .i64 b, .int .u64 (e.lsn : Nat), .int .u32 (e.epoch : Nat), .int .u32 (e.order : Nat), .int .i64 e.step, .bool e.undo, .int .i64 e.tri, .int .i64 e.code, .int .u64 (e.mark : Nat), .slice A1 n1 c1, .slice A2 n2 c2]] W fun x w' => x = .returned (.int .i64 40) ∧ Below W.heap.size W w' := fun b hb W => by
    have := check_any { e with kind := b } A1 A2 c1 c2 W
    unfold ChkPost at this
    rw [chk40 (x := { e with kind := b }) (fun hh => by have h1 := hh.k1; have h2 := hh.k7; simp only at h1 h2; omega)] at this
    rw [← hn1, ← hn2]
    exact this
  have CX := Lib.hid cx
  clear cx
  have HKD := Lib.hid hkd
  clear hn1 hn2 hok hkd
  go_enter Try.func6, Try.ntmps6
  go_wp2_with fail
  with_reducible refine (C1 _).out.mono ?_
  rintro x w1 ⟨rfl, hb1⟩
  have L1 := (Lies.made w 26 (evs e (.slice A1 n1 c1) (.slice A2 n2 c2))).below hb1 (by simp)
  have b1 := b0.trans (hb1.mono b0.size)
  obtain ⟨e0, e1, e2, e3, e4, e5, e6, e7, e8, e9, e10⟩ := L1.cellsE
  have BB1 := Lib.hid b1
  have HL1 := Lib.hid L1
  clear L1 b1 b0 hb1 C1
  go_wp2_with fail
  with_reducible refine (CC.out _).mono ?_
  rintro x w2 ⟨rfl, hb2⟩
  have L2 := HL1.out.below hb2 HL1.out.lt
  have BB2 := Lib.hid (BB1.out.trans (hb2.mono BB1.out.size))
  clear e0 e1 e2 e3 e4 e5 e6 e7 e8 e9 e10
  obtain ⟨e0, e1, e2, e3, e4, e5, e6, e7, e8, e9, e10⟩ := L2.cellsE
  have hlt := L2.lt
  have hne : w.heap.size ≠ w2.heap.size := by omega
  rw [HKD.out] at e0
  clear L2 HKD hb2 BB1 HL1 CC
  go_wp2_with fail
  with_reducible refine (beyond_any _ _).mono ?_
  rintro x w4 ⟨⟨b, rfl, hb⟩, rfl⟩
  go_wp2_with fail
  with_reducible refine (CX.out b hb _).mono ?_
  rintro x w5 ⟨rfl, hb5⟩
  go_wp2_with fail
  with_reducible refine (known_any _).mono ?_
  rintro x wk ⟨rfl, hbk⟩
  go_wp2
  go_ret
  have bx := (BB2.out.alloc BB2.out.size _).trans (hb5.mono (Nat.le_trans BB2.out.size (by simp)))
  exact ⟨rfl, bx.trans (hbk.mono bx.size)⟩

set_option maxRecDepth 100000 in
set_option maxHeartbeats 400000 in
theorem bare_long (e : Entry) (A1 A2 : Option Addr) (c1 c2 : Nat) (z : Int) (w : World) (h : longE e = true) :
    Calls Try.prog 6 #[.agg (evs e (.slice A1 e.key.length c1) (.slice A2 e.data.length c2)), .int .i64 z] w fun x w' => x = .returned (.bool true) ∧ Below w.heap.size w w' := by
  have C1 := fun W => Lib.hid (long_any e A1 A2 c1 c2 W)
  rw [h] at C1
  generalize Value.slice A1 e.key.length c1 = K at *
  generalize Value.slice A2 e.data.length c2 = D at *
  go_enter Try.func6, Try.ntmps6
  go_wp2_with fail
  with_reducible refine (C1 _).out.mono ?_
  rintro x w1 ⟨rfl, hb1⟩
  go_wp2_with fail
  with_reducible refine (known_any _).mono ?_
  rintro x w2 ⟨rfl, hb2⟩
  go_wp2
  go_ret
  have b1 : Below w.heap.size w w1 := ((Below.refl _ _).alloc (Nat.le_refl _) _).trans (hb1.mono (by simp))
  exact ⟨rfl, b1.trans (hb2.mono b1.size)⟩

set_option maxRecDepth 100000 in
set_option maxHeartbeats 1000000 in
theorem bare_bad (e : Entry) (A1 A2 : Option Addr) (c1 c2 : Nat) (z : Int) (w : World) (h : longE e = false) (hok : ¬ Ent.Ok e) :
    Calls Try.prog 6 #[.agg (evs e (.slice A1 e.key.length c1) (.slice A2 e.data.length c2)), .int .i64 z] w fun x w' => x = .returned (.bool true) ∧ Below w.heap.size w w' := by
  have C1 := fun W => Lib.hid (long_any e A1 A2 c1 c2 W)
  have CC := Lib.hid (fun W => check_any e A1 A2 c1 c2 W)
  unfold ChkPost at CC
  rw [chk40 hok] at CC
  rw [h] at C1
  generalize Value.slice A1 e.key.length c1 = K at *
  generalize Value.slice A2 e.data.length c2 = D at *
  go_enter Try.func6, Try.ntmps6
  go_wp2_with fail
  with_reducible refine (C1 _).out.mono ?_
  rintro x w1 ⟨rfl, hb1⟩
  have L1 := (Lies.made w 26 (evs e K D)).below hb1 (by simp)
  obtain ⟨e0, e1, e2, e3, e4, e5, e6, e7, e8, e9, e10⟩ := L1.cellsE
  clear L1
  go_wp2_with fail
  with_reducible refine (CC.out _).mono ?_
  rintro x w2 ⟨rfl, hb2⟩
  clear e0 e1 e2 e3 e4 e5 e6 e7 e8 e9 e10
  go_wp2_with fail
  with_reducible refine (known_any _).mono ?_
  rintro x w3 ⟨rfl, hb3⟩
  go_wp2
  go_ret
  have b1 : Below w.heap.size w w1 := ((Below.refl _ _).alloc (Nat.le_refl _) _).trans (hb1.mono (by simp))
  exact ⟨rfl, b1.trans ((hb2.trans (hb3.mono hb2.size)).mono b1.size)⟩

theorem entryBare_walk (e : Entry) (A1 A2 : Option Addr) (c1 c2 : Nat) (z : Int) (w : World) (hV : EntV w e A1 A2 c1 c2) (hz : (Lit.int .i64 z).wf = true) :
    Calls Try.prog 6 #[.agg (evs e (.slice A1 e.key.length c1) (.slice A2 e.data.length c2)), .int .i64 z] w fun x w' => x = .returned (.bool true) ∧ Below w.heap.size w w' := by
  by_cases hlong : longE e = true
  · exact bare_long e A1 A2 c1 c2 z w hlong
  have hl : longE e = false := by simpa using hlong
  by_cases hok : Ent.ok e = true
  · have ho := (Ent.ok_iff e).1 hok
    obtain ⟨u, hu⟩ : ∃ u : Nat, IntKind.u64.wrap z = (u : Int) := ⟨(IntKind.u64.wrap z).toNat, by rw [IntKind.wrap_u64]; omega⟩
    have h8 : ((u : Nat) : Int) % 8 = 0 ∨ ((u : Nat) : Int) % 8 = 1 ∨ ((u : Nat) : Int) % 8 = 2 ∨ ((u : Nat) : Int) % 8 = 3 ∨ ((u : Nat) : Int) % 8 = 4 ∨ ((u : Nat) : Int) % 8 = 5 ∨ ((u : Nat) : Int) % 8 = 6 ∨ ((u : Nat) : Int) % 8 = 7 := by omega
    rcases h8 with hm | hm | hm | hm | hm | hm | hm | hm
    · exact bare0 e A1 A2 c1 c2 z w hV hl ho u hu hm
    · exact bare1 e A1 A2 c1 c2 z w hV hl ho u hu hm
    · exact bare2 e A1 A2 c1 c2 z w hV hl ho u hu hm
    · exact bare3 e A1 A2 c1 c2 z w hV hl ho u hu hm
    · exact bare4 e A1 A2 c1 c2 z w hV hl ho u hu hm
    · exact bare5 e A1 A2 c1 c2 z w hV hl ho u hu hm
    · exact bare6 e A1 A2 c1 c2 z w hV hl ho u hu hm
    · exact bare7 e A1 A2 c1 c2 z w hV hl ho u hu hm
  · exact bare_bad e A1 A2 c1 c2 z w hl (fun h => hok ((Ent.ok_iff e).2 h))

end Go.Proofs.Ytccpmalefdnhdaa
