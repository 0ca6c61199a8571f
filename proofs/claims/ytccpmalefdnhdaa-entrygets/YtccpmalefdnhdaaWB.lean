/-
  The contracts of write: for each kind.
-/
import Derived.Test.YtccpmalefdnhdaaWA
import Derived.Deep.RegionHeld3
namespace Go.Proofs.Ytccpmalefdnhdaa
open Go.RowKit
attribute [local go_sem ↓] Go.wp_at_zero Go.wp_at_succ


set_option maxRecDepth 100000 in
set_option maxHeartbeats 1000000 in
theorem write3 (p B : Nat) (l : List Nat) (e : Entry) (K D : Value) (q1 q2 : Nat) (w : World) (hW : Wr w p B l) (hl : l.length ≤ 500) (ho : e.order < 4294967296) (hs : e.step = (q1 : Int)) (ht : e.tri = (q2 : Int)) (hq1 : q1 < 256) (hq2 : q2 < 256) :
    Calls Try.prog 33 #[.agg (pvs true false true 0 false), .pointer (some ⟨p, 0, none⟩), .agg (evs e K D)] w (WritePost w p B (l ++ Ent.be 4 e.order ++ Ent.be 1 q1 ++ Ent.be 1 (Ent.b2n e.undo) ++ Ent.be 1 q2)) := by
  have HS := Lib.hid hs
  have HT := Lib.hid ht
  clear hs ht
  have hx1 := wrap_u8 q1 hq1
  have hx2 := wrap_u8 q2 hq2
  have hun : Ent.b2n e.undo < 256 := by unfold Ent.b2n; split <;> decide
  have hBw := hW.size
  have HW := Lib.hid hW
  clear hW
  have B0 := Lib.hid (Boxes.made w true false true false 0 e K D)
  have b0 := below2 w (.cells (pvs true false true 0 false) 63) (.cells (evs e K D) 26)
  have HW0 := Lib.hid (HW.out.below b0)
  have BB0 := Lib.hid (b0.mono hBw)
  have KK0 := Lib.hid (((Keep.refl w).alloc (.cells (pvs true false true 0 false) 63)).alloc (.cells (evs e K D) 26))
  clear b0
  go_enter Try.func33, Try.ntmps33
  go_wp2_with fail
  have cc := wu32_any p B e.order (l) _ HW0.out ho (by omega)
  with_reducible refine cc.mono ?_
  clear cc
  rintro x w1 ⟨rfl, hW1, hb1, hk1⟩
  have B1 := Lib.hid (B0.out.keep hk1)
  have BB1 := Lib.hid (BB0.out.trans hb1)
  have KK1 := Lib.hid (KK0.out.trans hk1)
  have HW1 := Lib.hid hW1
  clear hW1 hb1 hk1
  obtain ⟨p0, p1, p2, p3, p4⟩ := B1.out.p.cellsP
  obtain ⟨e0, e1, e2, e3, e4, e5, e6, e7, e8, e9, e10⟩ := B1.out.e.cellsE
  rw [HS.out] at e4
  rw [HT.out] at e6
  clear e0 e1 e2 e9 e10 e7 e8
  have cc1 := wu8_any p B q1 (l ++ Ent.be 4 e.order) w1.drew HW1.out.drew hq1 (by have h0 := Ent.be_len 4 e.order; simp only [List.length_append]; omega)
  have C1 := Lib.hid cc1
  have cc2 := fun W (h1 : Wr W p B (l ++ Ent.be 4 e.order ++ Ent.be 1 q1)) => wu8_any p B (Ent.b2n e.undo) (l ++ Ent.be 4 e.order ++ Ent.be 1 q1) W h1 hun (by have h0 := Ent.be_len 4 e.order; have h1 := Ent.be_len 1 q1; simp only [List.length_append]; omega)
  have C2 := Lib.hid cc2
  have cc3 := fun W (h1 : Wr W p B (l ++ Ent.be 4 e.order ++ Ent.be 1 q1 ++ Ent.be 1 (Ent.b2n e.undo))) => wu8_any p B q2 (l ++ Ent.be 4 e.order ++ Ent.be 1 q1 ++ Ent.be 1 (Ent.b2n e.undo)) W h1 hq2 (by have h0 := Ent.be_len 4 e.order; have h1 := Ent.be_len 1 q1; have h2 := Ent.be_len 1 (Ent.b2n e.undo); simp only [List.length_append]; omega)
  have C3 := Lib.hid cc3
  clear cc1 cc2 cc3
  go_wp2_with fail
  go_region_held3 (fun W => W.cell? ⟨w.heap.size + 1, 4, none⟩ = some (.int .i64 (q1 : Nat)) ∧ W.cell? ⟨w.heap.size + 1, 5, none⟩ = some (.bool e.undo) ∧ W.cell? ⟨w.heap.size + 1, 6, none⟩ = some (.int .i64 (q2 : Nat))) (first | go_keep | (obtain ⟨_, _, _, _, f4, f5, f6, _, _, _, _⟩ := B4.out.e.cellsE; rw [HS.out] at f4; rw [HT.out] at f6; exact ⟨f4, f5, f6⟩) | (obtain ⟨_, _, _, _, f4, f5, f6, _, _, _, _⟩ := B3.out.e.cellsE; rw [HS.out] at f4; rw [HT.out] at f6; exact ⟨f4, f5, f6⟩) | (obtain ⟨_, _, _, _, f4, f5, f6, _, _, _, _⟩ := B2.out.e.cellsE; rw [HS.out] at f4; rw [HT.out] at f6; exact ⟨f4, f5, f6⟩))
    (first
    | (go_at_call 51; refine (flag_any e.undo _).mono ?_; rintro x wf ⟨rfl, rfl⟩)
    | (go_at_call 29; (with_reducible refine C1.out.mono ?_); rintro x w2 ⟨rfl, hW2, hb2, hk2⟩; have B2 := Lib.hid (B1.out.drew.keep hk2); have BB2 := Lib.hid (BB1.out.drew.trans hb2); have KK2 := Lib.hid (KK1.out.drew.trans hk2); have HW2 := Lib.hid hW2; clear hW2 hb2 hk2)
    | (go_at_call 29; (with_reducible refine (C2.out _ HW2.out).mono ?_); rintro x w3 ⟨rfl, hW2, hb2, hk2⟩; have B3 := Lib.hid (B2.out.keep hk2); have BB3 := Lib.hid (BB2.out.trans hb2); have KK3 := Lib.hid (KK2.out.trans hk2); have HW3 := Lib.hid hW2; clear hW2 hb2 hk2)
    | (go_at_call 29; (with_reducible refine (C3.out _ HW3.out).mono ?_); rintro x w4 ⟨rfl, hW2, hb2, hk2⟩; have B4 := Lib.hid (B3.out.keep hk2); have BB4 := Lib.hid (BB3.out.trans hb2); have KK4 := Lib.hid (KK3.out.trans hk2); have HW4 := Lib.hid hW2; clear hW2 hb2 hk2))
  clear p0 p1 p2 p3 p4 e3 e4 e5 e6
  obtain ⟨p0, p1, p2, p3, p4⟩ := B4.out.p.cellsP
  obtain ⟨e0, e1, e2, e3, e4, e5, e6, e7, e8, e9, e10⟩ := B4.out.e.cellsE
  rw [HS.out] at e4
  rw [HT.out] at e6
  clear e0 e1 e2 e9 e10 e7 e8
  go_wp2
  go_end0
  exact ⟨rfl, HW4.out, BB4.out, KK4.out⟩

set_option maxRecDepth 100000 in
set_option maxHeartbeats 1000000 in
theorem write4 (p B : Nat) (l : List Nat) (e : Entry) (K D : Value) (q1 q2 : Nat) (q3 : Nat) (w : World) (hW : Wr w p B l) (hl : l.length ≤ 500) (ho : e.order < 4294967296) (hs : e.step = (q1 : Int)) (ht : e.tri = (q2 : Int)) (hq1 : q1 < 256) (hq2 : q2 < 256) (hc : e.code = (q3 : Int)) (hq3 : q3 < 256) :
    Calls Try.prog 33 #[.agg (pvs true false true 3 false), .pointer (some ⟨p, 0, none⟩), .agg (evs e K D)] w (WritePost w p B (l ++ Ent.be 4 e.order ++ Ent.be 1 q1 ++ Ent.be 1 (Ent.b2n e.undo) ++ Ent.be 1 q2 ++ Ent.be 1 q3)) := by
  have HS := Lib.hid hs
  have HT := Lib.hid ht
  clear hs ht
  have hx1 := wrap_u8 q1 hq1
  have hx2 := wrap_u8 q2 hq2
  have hun : Ent.b2n e.undo < 256 := by unfold Ent.b2n; split <;> decide
  have HC := Lib.hid hc
  have hx3 := wrap_u8 q3 hq3
  clear hc
  have hBw := hW.size
  have HW := Lib.hid hW
  clear hW
  have B0 := Lib.hid (Boxes.made w true false true false 3 e K D)
  have b0 := below2 w (.cells (pvs true false true 3 false) 63) (.cells (evs e K D) 26)
  have HW0 := Lib.hid (HW.out.below b0)
  have BB0 := Lib.hid (b0.mono hBw)
  have KK0 := Lib.hid (((Keep.refl w).alloc (.cells (pvs true false true 3 false) 63)).alloc (.cells (evs e K D) 26))
  clear b0
  go_enter Try.func33, Try.ntmps33
  go_wp2_with fail
  have cc := wu32_any p B e.order (l) _ HW0.out ho (by omega)
  with_reducible refine cc.mono ?_
  clear cc
  rintro x w1 ⟨rfl, hW1, hb1, hk1⟩
  have B1 := Lib.hid (B0.out.keep hk1)
  have BB1 := Lib.hid (BB0.out.trans hb1)
  have KK1 := Lib.hid (KK0.out.trans hk1)
  have HW1 := Lib.hid hW1
  clear hW1 hb1 hk1
  obtain ⟨p0, p1, p2, p3, p4⟩ := B1.out.p.cellsP
  obtain ⟨e0, e1, e2, e3, e4, e5, e6, e7, e8, e9, e10⟩ := B1.out.e.cellsE
  rw [HS.out] at e4
  rw [HT.out] at e6
  rw [HC.out] at e7
  clear e0 e1 e2 e9 e10 e8
  have cc1 := wu8_any p B q1 (l ++ Ent.be 4 e.order) w1.drew HW1.out.drew hq1 (by have h0 := Ent.be_len 4 e.order; simp only [List.length_append]; omega)
  have C1 := Lib.hid cc1
  have cc2 := fun W (h1 : Wr W p B (l ++ Ent.be 4 e.order ++ Ent.be 1 q1)) => wu8_any p B (Ent.b2n e.undo) (l ++ Ent.be 4 e.order ++ Ent.be 1 q1) W h1 hun (by have h0 := Ent.be_len 4 e.order; have h1 := Ent.be_len 1 q1; simp only [List.length_append]; omega)
  have C2 := Lib.hid cc2
  have cc3 := fun W (h1 : Wr W p B (l ++ Ent.be 4 e.order ++ Ent.be 1 q1 ++ Ent.be 1 (Ent.b2n e.undo))) => wu8_any p B q2 (l ++ Ent.be 4 e.order ++ Ent.be 1 q1 ++ Ent.be 1 (Ent.b2n e.undo)) W h1 hq2 (by have h0 := Ent.be_len 4 e.order; have h1 := Ent.be_len 1 q1; have h2 := Ent.be_len 1 (Ent.b2n e.undo); simp only [List.length_append]; omega)
  have C3 := Lib.hid cc3
  clear cc1 cc2 cc3
  go_wp2_with fail
  go_region_held3 (fun W => W.cell? ⟨w.heap.size + 1, 4, none⟩ = some (.int .i64 (q1 : Nat)) ∧ W.cell? ⟨w.heap.size + 1, 5, none⟩ = some (.bool e.undo) ∧ W.cell? ⟨w.heap.size + 1, 6, none⟩ = some (.int .i64 (q2 : Nat))) (first | go_keep | (obtain ⟨_, _, _, _, f4, f5, f6, _, _, _, _⟩ := B4.out.e.cellsE; rw [HS.out] at f4; rw [HT.out] at f6; exact ⟨f4, f5, f6⟩) | (obtain ⟨_, _, _, _, f4, f5, f6, _, _, _, _⟩ := B3.out.e.cellsE; rw [HS.out] at f4; rw [HT.out] at f6; exact ⟨f4, f5, f6⟩) | (obtain ⟨_, _, _, _, f4, f5, f6, _, _, _, _⟩ := B2.out.e.cellsE; rw [HS.out] at f4; rw [HT.out] at f6; exact ⟨f4, f5, f6⟩))
    (first
    | (go_at_call 51; refine (flag_any e.undo _).mono ?_; rintro x wf ⟨rfl, rfl⟩)
    | (go_at_call 29; (with_reducible refine C1.out.mono ?_); rintro x w2 ⟨rfl, hW2, hb2, hk2⟩; have B2 := Lib.hid (B1.out.drew.keep hk2); have BB2 := Lib.hid (BB1.out.drew.trans hb2); have KK2 := Lib.hid (KK1.out.drew.trans hk2); have HW2 := Lib.hid hW2; clear hW2 hb2 hk2)
    | (go_at_call 29; (with_reducible refine (C2.out _ HW2.out).mono ?_); rintro x w3 ⟨rfl, hW2, hb2, hk2⟩; have B3 := Lib.hid (B2.out.keep hk2); have BB3 := Lib.hid (BB2.out.trans hb2); have KK3 := Lib.hid (KK2.out.trans hk2); have HW3 := Lib.hid hW2; clear hW2 hb2 hk2)
    | (go_at_call 29; (with_reducible refine (C3.out _ HW3.out).mono ?_); rintro x w4 ⟨rfl, hW2, hb2, hk2⟩; have B4 := Lib.hid (B3.out.keep hk2); have BB4 := Lib.hid (BB3.out.trans hb2); have KK4 := Lib.hid (KK3.out.trans hk2); have HW4 := Lib.hid hW2; clear hW2 hb2 hk2))
  clear p0 p1 p2 p3 p4 e3 e4 e5 e6 e7
  obtain ⟨p0, p1, p2, p3, p4⟩ := B4.out.p.cellsP
  obtain ⟨e0, e1, e2, e3, e4, e5, e6, e7, e8, e9, e10⟩ := B4.out.e.cellsE
  rw [HS.out] at e4
  rw [HT.out] at e6
  rw [HC.out] at e7
  clear e0 e1 e2 e9 e10 e8
  go_wp2_with fail
  have cc := wu8_any p B q3 (l ++ Ent.be 4 e.order ++ Ent.be 1 q1 ++ Ent.be 1 (Ent.b2n e.undo) ++ Ent.be 1 q2) _ HW4.out hq3 (by have h0 := Ent.be_len 4 e.order; have h1 := Ent.be_len 1 q1; have h2 := Ent.be_len 1 (Ent.b2n e.undo); have h3 := Ent.be_len 1 q2; simp only [List.length_append]; omega)
  with_reducible refine cc.mono ?_
  clear cc
  rintro x w5 ⟨rfl, hW5, hb5, hk5⟩
  clear p0 p1 p2 p3 p4 e3 e4 e5 e6 e7
  have B5 := Lib.hid (B4.out.keep hk5)
  have BB5 := Lib.hid (BB4.out.trans hb5)
  have KK5 := Lib.hid (KK4.out.trans hk5)
  have HW5 := Lib.hid hW5
  clear hW5 hb5 hk5
  obtain ⟨p0, p1, p2, p3, p4⟩ := B5.out.p.cellsP
  obtain ⟨e0, e1, e2, e3, e4, e5, e6, e7, e8, e9, e10⟩ := B5.out.e.cellsE
  rw [HS.out] at e4
  rw [HT.out] at e6
  rw [HC.out] at e7
  clear e0 e1 e2 e9 e10 e8
  go_wp2
  go_end0
  exact ⟨rfl, HW5.out, BB5.out, KK5.out⟩

end Go.Proofs.Ytccpmalefdnhdaa
