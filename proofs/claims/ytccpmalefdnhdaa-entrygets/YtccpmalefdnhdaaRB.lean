/-
  The contracts of read: for each kind.
-/
import Derived.Test.YtccpmalefdnhdaaRA
import Derived.Test.YtccpmalefdnhdaaOwnMem
namespace Go.Proofs.Ytccpmalefdnhdaa
open Go.RowKit


set_option maxRecDepth 100000 in
set_option maxHeartbeats 1000000 in
theorem read2 (p q B : Nat) (l : List Nat) (s0 : Ent.St) (e : Entry) (w : World) (x1 : Nat) (s1 : Ent.St) (h1 : Ent.rnum l 4 s0 = (x1, s1)) (x2 : List Nat) (s2 : Ent.St) (h2 : Ent.rtxt l s1 = (x2, s2)) (x3 : List Nat) (s3 : Ent.St) (h3 : Ent.rtxt l s2 = (x3, s3)) (hR : Rd 95 w p s0 l) (hE : Lies w q 26 (evs e nilV nilV)) (hpq : p < q) (hB : B ≤ p) (hl : l.length ≤ 100000) :
    Calls Try.prog 43 #[.agg (pvs true true false 0 false), .pointer (some ⟨p, 0, none⟩), .pointer (some ⟨q, 0, none⟩)] w (ReadPost w p q B { e with order := x1, key := x2, data := x3 }) := by
  have hqw := hE.lt
  have hBw : B ≤ w.heap.size := by omega
  have hgq : w.heap.size ≠ q := by omega
  have hgp : w.heap.size ≠ p := by omega
  have LP0 := Lib.hid (Lies.made w 63 (pvs true true false 0 false))
  have LE0 := Lib.hid (hE.alloc (.cells (pvs true true false 0 false) 63))
  have HR0 := Lib.hid (hR.below ((Below.refl _ _).alloc (Nat.le_refl _) (.cells (pvs true true false 0 false) 63)))
  have BB0 := Lib.hid ((Below.refl B w).alloc hBw (.cells (pvs true true false 0 false) 63))
  have KK0 := Lib.hid ((Keep2.refl p q w).alloc (.cells (pvs true true false 0 false) 63))
  have H1 := Lib.hid h1
  have H2 := Lib.hid h2
  have H3 := Lib.hid h3
  clear hR hE h1 h2 h3
  go_enter Try.func43, Try.ntmps43
  have cc1 := ru32_any p s0 l (w.alloc (.cells (pvs true true false 0 false) 63)) HR0.out hl
  unfold Ru32Post at cc1
  rw [H1.out] at cc1
  have C1 := Lib.hid cc1
  clear cc1
  go_wp2_with fail
  with_reducible refine C1.out.mono ?_
  rintro x w1 ⟨rfl, hR1, hg1⟩
  have LP1 := Lib.hid (LP0.out.grown hg1 (fun e => hgp (by injection e)))
  have LE1 := Lib.hid (LE0.out.grown hg1 (fun e => by injection e; omega))
  have HR1 := Lib.hid hR1
  have BB1 := Lib.hid (BB0.out.grown hg1 (Nat.le_trans hBw BB0.out.size) (fun k hk => by injection hk with hk; omega))
  have KK1 := Lib.hid (KK0.out.grown hg1)
  clear hR1 hg1
  obtain ⟨p0, p1, p2, p3, p4⟩ := LP1.out.cellsP
  have f3 : w1.cell? ⟨q, 3, none⟩ = some (.int .u32 (e.order : Nat)) := LE1.out.cell 3
  have g3 : w1.frozen? ⟨q, 3, none⟩ = false := LE1.out.free 3
  have le : Lies (w1.setCell ⟨q, 3, none⟩ (.int .u32 ((x1 : Nat) : Int))) q 26 (evs { e with order := x1 } nilV nilV) := LE1.out.put 3 _
  have LE1s := Lib.hid le
  clear le
  have LP1s := Lib.hid (LP1.out.other (a := ⟨q, 3, none⟩) hgq (.int .u32 ((x1 : Nat) : Int)))
  have HR1s := Lib.hid (HR1.out.setq hpq 3 (.int .u32 ((x1 : Nat) : Int)))
  have BB1s := Lib.hid (BB1.out.setCell (p := ⟨q, 3, none⟩) (by show B ≤ q; omega) (.int .u32 ((x1 : Nat) : Int)))
  have KK1s := Lib.hid (KK1.out.put 3 (.int .u32 ((x1 : Nat) : Int)))
  have cc2 := rtext_any p s1 l (w1.setCell ⟨q, 3, none⟩ (.int .u32 ((x1 : Nat) : Int))) HR1s.out hl
  unfold RtPost at cc2
  rw [H2.out] at cc2
  have C2 := Lib.hid cc2
  clear cc2
  go_wp2_with fail
  with_reducible refine C2.out.mono ?_
  clear p0 p1 p2 p3 p4
  rintro x w2 ⟨v2, rfl, hO2, hR2, hg2⟩
  obtain ⟨A2, c2, hv2, _, _, _, _⟩ := hO2.slice
  obtain ⟨n2, hn2⟩ : ∃ n, x2.length = n := ⟨_, rfl⟩
  rw [hn2] at hv2
  subst hv2
  have HO2 := Lib.hid hO2
  clear hO2 hn2
  have LP2 := Lib.hid (LP1s.out.grown hg2 (fun e => hgp (by injection e)))
  have LE2 := Lib.hid (LE1s.out.grown hg2 (fun e => by injection e; omega))
  have HR2 := Lib.hid hR2
  have BB2 := Lib.hid (BB1s.out.grown hg2 (Nat.le_trans hBw BB1s.out.size) (fun k hk => by injection hk with hk; omega))
  have KK2 := Lib.hid (KK1s.out.grown hg2)
  have BBt2 := Lib.hid BB1s.out
  clear hR2 hg2
  have cc3 := rtext_any p s2 l w2 HR2.out hl
  unfold RtPost at cc3
  rw [H3.out] at cc3
  have C3 := Lib.hid cc3
  clear cc3
  go_wp2_with fail
  with_reducible refine C3.out.mono ?_
  rintro x w3 ⟨v3, rfl, hO3, hR3, hg3⟩
  obtain ⟨A3, c3, hv3, _, _, _, _⟩ := hO3.slice
  obtain ⟨n3, hn3⟩ : ∃ n, x3.length = n := ⟨_, rfl⟩
  rw [hn3] at hv3
  subst hv3
  have HO3 := Lib.hid hO3
  clear hO3 hn3
  have hne : ∀ g, (Value.slice A2 n2 c2).ownBlock = some g → (Value.slice A3 n3 c3).ownBlock ≠ some g := fun g h1 h2 => by have := HO2.out.lt g h1; have := HO3.out.block g h2; omega
  have HNE := Lib.hid hne
  have hkeep := HO2.out.grownOther hg3 (fun g h1 h2 => by injection h2 with h2; have := HO2.out.block g h1; have hx := BBt2.out.size; omega)
  have HO2k := Lib.hid hkeep
  clear hkeep hne
  have LP3 := Lib.hid (LP2.out.grown hg3 (fun e => hgp (by injection e)))
  have LE3 := Lib.hid (LE2.out.grown hg3 (fun e => by injection e; omega))
  have HR3 := Lib.hid hR3
  have BB3 := Lib.hid (BB2.out.grown hg3 (Nat.le_trans hBw BB2.out.size) (fun k hk => by injection hk with hk; omega))
  have KK3 := Lib.hid (KK2.out.grown hg3)
  clear hR3 hg3
  obtain ⟨p0, p1, p2, p3, p4⟩ := LP3.out.cellsP
  have f9 : w3.cell? ⟨q, 9, none⟩ = some (nilV) := LE3.out.cell 9
  have g9 : w3.frozen? ⟨q, 9, none⟩ = false := LE3.out.free 9
  have le : Lies (w3.setCell ⟨q, 9, none⟩ (.slice A2 n2 c2)) q 26 (evs { e with order := x1 } (.slice A2 n2 c2) nilV) := LE3.out.put 9 _
  have LE3s := Lib.hid le
  clear le
  have LP3s := Lib.hid (LP3.out.other (a := ⟨q, 9, none⟩) hgq (.slice A2 n2 c2))
  have HR3s := Lib.hid (HR3.out.setq hpq 9 (.slice A2 n2 c2))
  have BB3s := Lib.hid (BB3.out.setCell (p := ⟨q, 9, none⟩) (by show B ≤ q; omega) (.slice A2 n2 c2))
  have KK3s := Lib.hid (KK3.out.put 9 (.slice A2 n2 c2))
  have f10 : (w3.setCell ⟨q, 9, none⟩ (.slice A2 n2 c2)).cell? ⟨q, 10, none⟩ = some (nilV) := LE3s.out.cell 10
  have g10 : (w3.setCell ⟨q, 9, none⟩ (.slice A2 n2 c2)).frozen? ⟨q, 10, none⟩ = false := LE3s.out.free 10
  have le : Lies ((w3.setCell ⟨q, 9, none⟩ (.slice A2 n2 c2)).setCell ⟨q, 10, none⟩ (.slice A3 n3 c3)) q 26 (evs { e with order := x1 } (.slice A2 n2 c2) (.slice A3 n3 c3)) := LE3s.out.put 10 _
  have LE3ss := Lib.hid le
  clear le
  have LP3ss := Lib.hid (LP3s.out.other (a := ⟨q, 10, none⟩) hgq (.slice A3 n3 c3))
  have HR3ss := Lib.hid (HR3s.out.setq hpq 10 (.slice A3 n3 c3))
  have BB3ss := Lib.hid (BB3s.out.setCell (p := ⟨q, 10, none⟩) (by show B ≤ q; omega) (.slice A3 n3 c3))
  have KK3ss := Lib.hid (KK3s.out.put 10 (.slice A3 n3 c3))
  go_wp2
  go_end0
  refine ⟨rfl, .slice A2 n2 c2, .slice A3 n3 c3, LE3ss.out, ?_, ?_, HNE.out, BB3ss.out, KK3ss.out⟩
  · have hk1 := HO2k.out.mono (show w.heap.size ≤ _ from BBt2.out.size)
    exact (hk1.setOther (a := ⟨q, 9, none⟩) (fun e => by have := hk1.block q e.symm; omega) _).setOther (a := ⟨q, 10, none⟩) (fun e => by have := hk1.block q e.symm; omega) _
  · have hk1 := HO3.out.mono (show w.heap.size ≤ _ from BB2.out.size)
    exact (hk1.setOther (a := ⟨q, 9, none⟩) (fun e => by have := hk1.block q e.symm; omega) _).setOther (a := ⟨q, 10, none⟩) (fun e => by have := hk1.block q e.symm; omega) _

set_option maxRecDepth 100000 in
set_option maxHeartbeats 1000000 in
theorem read3 (p q B : Nat) (l : List Nat) (s0 : Ent.St) (e : Entry) (w : World) (x1 : Nat) (s1 : Ent.St) (h1 : Ent.rnum l 4 s0 = (x1, s1)) (x2 : Nat) (s2 : Ent.St) (h2 : Ent.rnum l 1 s1 = (x2, s2)) (x3 : Nat) (s3 : Ent.St) (h3 : Ent.rnum l 1 s2 = (x3, s3)) (x4 : Nat) (s4 : Ent.St) (h4 : Ent.rnum l 1 s3 = (x4, s4)) (hR : Rd 95 w p s0 l) (hE : Lies w q 26 (evs e nilV nilV)) (hpq : p < q) (hB : B ≤ p) (hl : l.length ≤ 100000) (hkey : e.key = []) (hdata : e.data = []) :
    Calls Try.prog 43 #[.agg (pvs true false true 0 false), .pointer (some ⟨p, 0, none⟩), .pointer (some ⟨q, 0, none⟩)] w (ReadPost w p q B { e with order := x1, step := x2, undo := (x3 == 1), tri := x4 }) := by
  have hqw := hE.lt
  have hBw : B ≤ w.heap.size := by omega
  have hgq : w.heap.size ≠ q := by omega
  have hgp : w.heap.size ≠ p := by omega
  have LP0 := Lib.hid (Lies.made w 63 (pvs true false true 0 false))
  have LE0 := Lib.hid (hE.alloc (.cells (pvs true false true 0 false) 63))
  have HR0 := Lib.hid (hR.below ((Below.refl _ _).alloc (Nat.le_refl _) (.cells (pvs true false true 0 false) 63)))
  have BB0 := Lib.hid ((Below.refl B w).alloc hBw (.cells (pvs true false true 0 false) 63))
  have KK0 := Lib.hid ((Keep2.refl p q w).alloc (.cells (pvs true false true 0 false) 63))
  have hsm := hR.small
  have by2 : x2 < 256 := by have hq := Ent.rnum_lt l hsm 1 s1; rw [h2] at hq; exact hq
  have by3 : x3 < 256 := by have hq := Ent.rnum_lt l hsm 1 s2; rw [h3] at hq; exact hq
  have by4 : x4 < 256 := by have hq := Ent.rnum_lt l hsm 1 s3; rw [h4] at hq; exact hq
  clear hsm
  have H1 := Lib.hid h1
  have H2 := Lib.hid h2
  have H3 := Lib.hid h3
  have H4 := Lib.hid h4
  clear hR hE h1 h2 h3 h4
  go_enter Try.func43, Try.ntmps43
  have cc1 := ru32_any p s0 l (w.alloc (.cells (pvs true false true 0 false) 63)) HR0.out hl
  unfold Ru32Post at cc1
  rw [H1.out] at cc1
  have C1 := Lib.hid cc1
  clear cc1
  go_wp2_with fail
  with_reducible refine C1.out.mono ?_
  rintro x w1 ⟨rfl, hR1, hg1⟩
  have LP1 := Lib.hid (LP0.out.grown hg1 (fun e => hgp (by injection e)))
  have LE1 := Lib.hid (LE0.out.grown hg1 (fun e => by injection e; omega))
  have HR1 := Lib.hid hR1
  have BB1 := Lib.hid (BB0.out.grown hg1 (Nat.le_trans hBw BB0.out.size) (fun k hk => by injection hk with hk; omega))
  have KK1 := Lib.hid (KK0.out.grown hg1)
  clear hR1 hg1
  obtain ⟨p0, p1, p2, p3, p4⟩ := LP1.out.cellsP
  have f3 : w1.cell? ⟨q, 3, none⟩ = some (.int .u32 (e.order : Nat)) := LE1.out.cell 3
  have g3 : w1.frozen? ⟨q, 3, none⟩ = false := LE1.out.free 3
  have le : Lies (w1.setCell ⟨q, 3, none⟩ (.int .u32 ((x1 : Nat) : Int))) q 26 (evs { e with order := x1 } nilV nilV) := LE1.out.put 3 _
  have LE1s := Lib.hid le
  clear le
  have LP1s := Lib.hid (LP1.out.other (a := ⟨q, 3, none⟩) hgq (.int .u32 ((x1 : Nat) : Int)))
  have HR1s := Lib.hid (HR1.out.setq hpq 3 (.int .u32 ((x1 : Nat) : Int)))
  have BB1s := Lib.hid (BB1.out.setCell (p := ⟨q, 3, none⟩) (by show B ≤ q; omega) (.int .u32 ((x1 : Nat) : Int)))
  have KK1s := Lib.hid (KK1.out.put 3 (.int .u32 ((x1 : Nat) : Int)))
  have cc2 := ru8_any p s1 l (w1.setCell ⟨q, 3, none⟩ (.int .u32 ((x1 : Nat) : Int))) HR1s.out hl
  unfold Ru8Post at cc2
  rw [H2.out] at cc2
  have C2 := Lib.hid cc2
  clear cc2
  go_wp2_with fail
  with_reducible refine C2.out.mono ?_
  clear p0 p1 p2 p3 p4
  rintro x w2 ⟨rfl, hR2, hg2⟩
  have LP2 := Lib.hid (LP1s.out.grown hg2 (fun e => hgp (by injection e)))
  have LE2 := Lib.hid (LE1s.out.grown hg2 (fun e => by injection e; omega))
  have HR2 := Lib.hid hR2
  have BB2 := Lib.hid (BB1s.out.grown hg2 (Nat.le_trans hBw BB1s.out.size) (fun k hk => by injection hk with hk; omega))
  have KK2 := Lib.hid (KK1s.out.grown hg2)
  clear hR2 hg2
  have cc3 := ru8_any p s2 l w2 HR2.out hl
  unfold Ru8Post at cc3
  rw [H3.out] at cc3
  have C3 := Lib.hid cc3
  clear cc3
  go_wp2_with fail
  with_reducible refine C3.out.mono ?_
  rintro x w3 ⟨rfl, hR3, hg3⟩
  have LP3 := Lib.hid (LP2.out.grown hg3 (fun e => hgp (by injection e)))
  have LE3 := Lib.hid (LE2.out.grown hg3 (fun e => by injection e; omega))
  have HR3 := Lib.hid hR3
  have BB3 := Lib.hid (BB2.out.grown hg3 (Nat.le_trans hBw BB2.out.size) (fun k hk => by injection hk with hk; omega))
  have KK3 := Lib.hid (KK2.out.grown hg3)
  clear hR3 hg3
  have cc4 := ru8_any p s3 l w3 HR3.out hl
  unfold Ru8Post at cc4
  rw [H4.out] at cc4
  have C4 := Lib.hid cc4
  clear cc4
  go_wp2_with fail
  with_reducible refine C4.out.mono ?_
  rintro x w4 ⟨rfl, hR4, hg4⟩
  have LP4 := Lib.hid (LP3.out.grown hg4 (fun e => hgp (by injection e)))
  have LE4 := Lib.hid (LE3.out.grown hg4 (fun e => by injection e; omega))
  have HR4 := Lib.hid hR4
  have BB4 := Lib.hid (BB3.out.grown hg4 (Nat.le_trans hBw BB3.out.size) (fun k hk => by injection hk with hk; omega))
  have KK4 := Lib.hid (KK3.out.grown hg4)
  clear hR4 hg4
  obtain ⟨p0, p1, p2, p3, p4⟩ := LP4.out.cellsP
  have f4 : w4.cell? ⟨q, 4, none⟩ = some (.int .i64 e.step) := LE4.out.cell 4
  have g4 : w4.frozen? ⟨q, 4, none⟩ = false := LE4.out.free 4
  have le : Lies (w4.setCell ⟨q, 4, none⟩ (.int .i64 ((x2 : Nat) : Int))) q 26 (evs { e with order := x1, step := x2 } nilV nilV) := LE4.out.put 4 _
  have LE4s := Lib.hid le
  clear le
  have LP4s := Lib.hid (LP4.out.other (a := ⟨q, 4, none⟩) hgq (.int .i64 ((x2 : Nat) : Int)))
  have HR4s := Lib.hid (HR4.out.setq hpq 4 (.int .i64 ((x2 : Nat) : Int)))
  have BB4s := Lib.hid (BB4.out.setCell (p := ⟨q, 4, none⟩) (by show B ≤ q; omega) (.int .i64 ((x2 : Nat) : Int)))
  have KK4s := Lib.hid (KK4.out.put 4 (.int .i64 ((x2 : Nat) : Int)))
  have f5 : (w4.setCell ⟨q, 4, none⟩ (.int .i64 ((x2 : Nat) : Int))).cell? ⟨q, 5, none⟩ = some (.bool e.undo) := LE4s.out.cell 5
  have g5 : (w4.setCell ⟨q, 4, none⟩ (.int .i64 ((x2 : Nat) : Int))).frozen? ⟨q, 5, none⟩ = false := LE4s.out.free 5
  have hu3 : (((x3 : Nat) : Int) == 1) = (x3 == 1) := by rw [Bool.eq_iff_iff]; simp; omega
  have le : Lies ((w4.setCell ⟨q, 4, none⟩ (.int .i64 ((x2 : Nat) : Int))).setCell ⟨q, 5, none⟩ (.bool (x3 == 1))) q 26 (evs { e with order := x1, step := x2, undo := (x3 == 1) } nilV nilV) := LE4s.out.put 5 _
  have LE4ss := Lib.hid le
  clear le
  have LP4ss := Lib.hid (LP4s.out.other (a := ⟨q, 5, none⟩) hgq (.bool (x3 == 1)))
  have HR4ss := Lib.hid (HR4s.out.setq hpq 5 (.bool (x3 == 1)))
  have BB4ss := Lib.hid (BB4s.out.setCell (p := ⟨q, 5, none⟩) (by show B ≤ q; omega) (.bool (x3 == 1)))
  have KK4ss := Lib.hid (KK4s.out.put 5 (.bool (x3 == 1)))
  have f6 : ((w4.setCell ⟨q, 4, none⟩ (.int .i64 ((x2 : Nat) : Int))).setCell ⟨q, 5, none⟩ (.bool (x3 == 1))).cell? ⟨q, 6, none⟩ = some (.int .i64 e.tri) := LE4ss.out.cell 6
  have g6 : ((w4.setCell ⟨q, 4, none⟩ (.int .i64 ((x2 : Nat) : Int))).setCell ⟨q, 5, none⟩ (.bool (x3 == 1))).frozen? ⟨q, 6, none⟩ = false := LE4ss.out.free 6
  have le : Lies (((w4.setCell ⟨q, 4, none⟩ (.int .i64 ((x2 : Nat) : Int))).setCell ⟨q, 5, none⟩ (.bool (x3 == 1))).setCell ⟨q, 6, none⟩ (.int .i64 ((x4 : Nat) : Int))) q 26 (evs { e with order := x1, step := x2, undo := (x3 == 1), tri := x4 } nilV nilV) := LE4ss.out.put 6 _
  have LE4sss := Lib.hid le
  clear le
  have LP4sss := Lib.hid (LP4ss.out.other (a := ⟨q, 6, none⟩) hgq (.int .i64 ((x4 : Nat) : Int)))
  have HR4sss := Lib.hid (HR4ss.out.setq hpq 6 (.int .i64 ((x4 : Nat) : Int)))
  have BB4sss := Lib.hid (BB4ss.out.setCell (p := ⟨q, 6, none⟩) (by show B ≤ q; omega) (.int .i64 ((x4 : Nat) : Int)))
  have KK4sss := Lib.hid (KK4ss.out.put 6 (.int .i64 ((x4 : Nat) : Int)))
  go_wp2
  go_end0
  exact ⟨rfl, nilV, nilV, LE4sss.out, by show Own _ _ nilV e.key; rw [hkey]; exact Own.nil _ _, by show Own _ _ nilV e.data; rw [hdata]; exact Own.nil _ _, (fun g h => by cases h), BB4sss.out, KK4sss.out⟩

set_option maxRecDepth 100000 in
set_option maxHeartbeats 1000000 in
theorem read4 (p q B : Nat) (l : List Nat) (s0 : Ent.St) (e : Entry) (w : World) (x1 : Nat) (s1 : Ent.St) (h1 : Ent.rnum l 4 s0 = (x1, s1)) (x2 : Nat) (s2 : Ent.St) (h2 : Ent.rnum l 1 s1 = (x2, s2)) (x3 : Nat) (s3 : Ent.St) (h3 : Ent.rnum l 1 s2 = (x3, s3)) (x4 : Nat) (s4 : Ent.St) (h4 : Ent.rnum l 1 s3 = (x4, s4)) (x5 : Nat) (s5 : Ent.St) (h5 : Ent.rnum l 1 s4 = (x5, s5)) (hR : Rd 95 w p s0 l) (hE : Lies w q 26 (evs e nilV nilV)) (hpq : p < q) (hB : B ≤ p) (hl : l.length ≤ 100000) (hkey : e.key = []) (hdata : e.data = []) :
    Calls Try.prog 43 #[.agg (pvs true false true 3 false), .pointer (some ⟨p, 0, none⟩), .pointer (some ⟨q, 0, none⟩)] w (ReadPost w p q B { e with order := x1, step := x2, undo := (x3 == 1), tri := x4, code := x5 }) := by
  have hqw := hE.lt
  have hBw : B ≤ w.heap.size := by omega
  have hgq : w.heap.size ≠ q := by omega
  have hgp : w.heap.size ≠ p := by omega
  have LP0 := Lib.hid (Lies.made w 63 (pvs true false true 3 false))
  have LE0 := Lib.hid (hE.alloc (.cells (pvs true false true 3 false) 63))
  have HR0 := Lib.hid (hR.below ((Below.refl _ _).alloc (Nat.le_refl _) (.cells (pvs true false true 3 false) 63)))
  have BB0 := Lib.hid ((Below.refl B w).alloc hBw (.cells (pvs true false true 3 false) 63))
  have KK0 := Lib.hid ((Keep2.refl p q w).alloc (.cells (pvs true false true 3 false) 63))
  have hsm := hR.small
  have by2 : x2 < 256 := by have hq := Ent.rnum_lt l hsm 1 s1; rw [h2] at hq; exact hq
  have by3 : x3 < 256 := by have hq := Ent.rnum_lt l hsm 1 s2; rw [h3] at hq; exact hq
  have by4 : x4 < 256 := by have hq := Ent.rnum_lt l hsm 1 s3; rw [h4] at hq; exact hq
  have by5 : x5 < 256 := by have hq := Ent.rnum_lt l hsm 1 s4; rw [h5] at hq; exact hq
  clear hsm
  have H1 := Lib.hid h1
  have H2 := Lib.hid h2
  have H3 := Lib.hid h3
  have H4 := Lib.hid h4
  have H5 := Lib.hid h5
  clear hR hE h1 h2 h3 h4 h5
  go_enter Try.func43, Try.ntmps43
  have cc1 := ru32_any p s0 l (w.alloc (.cells (pvs true false true 3 false) 63)) HR0.out hl
  unfold Ru32Post at cc1
  rw [H1.out] at cc1
  have C1 := Lib.hid cc1
  clear cc1
  go_wp2_with fail
  with_reducible refine C1.out.mono ?_
  rintro x w1 ⟨rfl, hR1, hg1⟩
  have LP1 := Lib.hid (LP0.out.grown hg1 (fun e => hgp (by injection e)))
  have LE1 := Lib.hid (LE0.out.grown hg1 (fun e => by injection e; omega))
  have HR1 := Lib.hid hR1
  have BB1 := Lib.hid (BB0.out.grown hg1 (Nat.le_trans hBw BB0.out.size) (fun k hk => by injection hk with hk; omega))
  have KK1 := Lib.hid (KK0.out.grown hg1)
  clear hR1 hg1
  obtain ⟨p0, p1, p2, p3, p4⟩ := LP1.out.cellsP
  have f3 : w1.cell? ⟨q, 3, none⟩ = some (.int .u32 (e.order : Nat)) := LE1.out.cell 3
  have g3 : w1.frozen? ⟨q, 3, none⟩ = false := LE1.out.free 3
  have le : Lies (w1.setCell ⟨q, 3, none⟩ (.int .u32 ((x1 : Nat) : Int))) q 26 (evs { e with order := x1 } nilV nilV) := LE1.out.put 3 _
  have LE1s := Lib.hid le
  clear le
  have LP1s := Lib.hid (LP1.out.other (a := ⟨q, 3, none⟩) hgq (.int .u32 ((x1 : Nat) : Int)))
  have HR1s := Lib.hid (HR1.out.setq hpq 3 (.int .u32 ((x1 : Nat) : Int)))
  have BB1s := Lib.hid (BB1.out.setCell (p := ⟨q, 3, none⟩) (by show B ≤ q; omega) (.int .u32 ((x1 : Nat) : Int)))
  have KK1s := Lib.hid (KK1.out.put 3 (.int .u32 ((x1 : Nat) : Int)))
  have cc2 := ru8_any p s1 l (w1.setCell ⟨q, 3, none⟩ (.int .u32 ((x1 : Nat) : Int))) HR1s.out hl
  unfold Ru8Post at cc2
  rw [H2.out] at cc2
  have C2 := Lib.hid cc2
  clear cc2
  go_wp2_with fail
  with_reducible refine C2.out.mono ?_
  clear p0 p1 p2 p3 p4
  rintro x w2 ⟨rfl, hR2, hg2⟩
  have LP2 := Lib.hid (LP1s.out.grown hg2 (fun e => hgp (by injection e)))
  have LE2 := Lib.hid (LE1s.out.grown hg2 (fun e => by injection e; omega))
  have HR2 := Lib.hid hR2
  have BB2 := Lib.hid (BB1s.out.grown hg2 (Nat.le_trans hBw BB1s.out.size) (fun k hk => by injection hk with hk; omega))
  have KK2 := Lib.hid (KK1s.out.grown hg2)
  clear hR2 hg2
  have cc3 := ru8_any p s2 l w2 HR2.out hl
  unfold Ru8Post at cc3
  rw [H3.out] at cc3
  have C3 := Lib.hid cc3
  clear cc3
  go_wp2_with fail
  with_reducible refine C3.out.mono ?_
  rintro x w3 ⟨rfl, hR3, hg3⟩
  have LP3 := Lib.hid (LP2.out.grown hg3 (fun e => hgp (by injection e)))
  have LE3 := Lib.hid (LE2.out.grown hg3 (fun e => by injection e; omega))
  have HR3 := Lib.hid hR3
  have BB3 := Lib.hid (BB2.out.grown hg3 (Nat.le_trans hBw BB2.out.size) (fun k hk => by injection hk with hk; omega))
  have KK3 := Lib.hid (KK2.out.grown hg3)
  clear hR3 hg3
  have cc4 := ru8_any p s3 l w3 HR3.out hl
  unfold Ru8Post at cc4
  rw [H4.out] at cc4
  have C4 := Lib.hid cc4
  clear cc4
  go_wp2_with fail
  with_reducible refine C4.out.mono ?_
  rintro x w4 ⟨rfl, hR4, hg4⟩
  have LP4 := Lib.hid (LP3.out.grown hg4 (fun e => hgp (by injection e)))
  have LE4 := Lib.hid (LE3.out.grown hg4 (fun e => by injection e; omega))
  have HR4 := Lib.hid hR4
  have BB4 := Lib.hid (BB3.out.grown hg4 (Nat.le_trans hBw BB3.out.size) (fun k hk => by injection hk with hk; omega))
  have KK4 := Lib.hid (KK3.out.grown hg4)
  clear hR4 hg4
  obtain ⟨p0, p1, p2, p3, p4⟩ := LP4.out.cellsP
  have f4 : w4.cell? ⟨q, 4, none⟩ = some (.int .i64 e.step) := LE4.out.cell 4
  have g4 : w4.frozen? ⟨q, 4, none⟩ = false := LE4.out.free 4
  have le : Lies (w4.setCell ⟨q, 4, none⟩ (.int .i64 ((x2 : Nat) : Int))) q 26 (evs { e with order := x1, step := x2 } nilV nilV) := LE4.out.put 4 _
  have LE4s := Lib.hid le
  clear le
  have LP4s := Lib.hid (LP4.out.other (a := ⟨q, 4, none⟩) hgq (.int .i64 ((x2 : Nat) : Int)))
  have HR4s := Lib.hid (HR4.out.setq hpq 4 (.int .i64 ((x2 : Nat) : Int)))
  have BB4s := Lib.hid (BB4.out.setCell (p := ⟨q, 4, none⟩) (by show B ≤ q; omega) (.int .i64 ((x2 : Nat) : Int)))
  have KK4s := Lib.hid (KK4.out.put 4 (.int .i64 ((x2 : Nat) : Int)))
  have f5 : (w4.setCell ⟨q, 4, none⟩ (.int .i64 ((x2 : Nat) : Int))).cell? ⟨q, 5, none⟩ = some (.bool e.undo) := LE4s.out.cell 5
  have g5 : (w4.setCell ⟨q, 4, none⟩ (.int .i64 ((x2 : Nat) : Int))).frozen? ⟨q, 5, none⟩ = false := LE4s.out.free 5
  have hu3 : (((x3 : Nat) : Int) == 1) = (x3 == 1) := by rw [Bool.eq_iff_iff]; simp; omega
  have le : Lies ((w4.setCell ⟨q, 4, none⟩ (.int .i64 ((x2 : Nat) : Int))).setCell ⟨q, 5, none⟩ (.bool (x3 == 1))) q 26 (evs { e with order := x1, step := x2, undo := (x3 == 1) } nilV nilV) := LE4s.out.put 5 _
  have LE4ss := Lib.hid le
  clear le
  have LP4ss := Lib.hid (LP4s.out.other (a := ⟨q, 5, none⟩) hgq (.bool (x3 == 1)))
  have HR4ss := Lib.hid (HR4s.out.setq hpq 5 (.bool (x3 == 1)))
  have BB4ss := Lib.hid (BB4s.out.setCell (p := ⟨q, 5, none⟩) (by show B ≤ q; omega) (.bool (x3 == 1)))
  have KK4ss := Lib.hid (KK4s.out.put 5 (.bool (x3 == 1)))
  have f6 : ((w4.setCell ⟨q, 4, none⟩ (.int .i64 ((x2 : Nat) : Int))).setCell ⟨q, 5, none⟩ (.bool (x3 == 1))).cell? ⟨q, 6, none⟩ = some (.int .i64 e.tri) := LE4ss.out.cell 6
  have g6 : ((w4.setCell ⟨q, 4, none⟩ (.int .i64 ((x2 : Nat) : Int))).setCell ⟨q, 5, none⟩ (.bool (x3 == 1))).frozen? ⟨q, 6, none⟩ = false := LE4ss.out.free 6
  have le : Lies (((w4.setCell ⟨q, 4, none⟩ (.int .i64 ((x2 : Nat) : Int))).setCell ⟨q, 5, none⟩ (.bool (x3 == 1))).setCell ⟨q, 6, none⟩ (.int .i64 ((x4 : Nat) : Int))) q 26 (evs { e with order := x1, step := x2, undo := (x3 == 1), tri := x4 } nilV nilV) := LE4ss.out.put 6 _
  have LE4sss := Lib.hid le
  clear le
  have LP4sss := Lib.hid (LP4ss.out.other (a := ⟨q, 6, none⟩) hgq (.int .i64 ((x4 : Nat) : Int)))
  have HR4sss := Lib.hid (HR4ss.out.setq hpq 6 (.int .i64 ((x4 : Nat) : Int)))
  have BB4sss := Lib.hid (BB4ss.out.setCell (p := ⟨q, 6, none⟩) (by show B ≤ q; omega) (.int .i64 ((x4 : Nat) : Int)))
  have KK4sss := Lib.hid (KK4ss.out.put 6 (.int .i64 ((x4 : Nat) : Int)))
  have cc5 := ru8_any p s4 l (((w4.setCell ⟨q, 4, none⟩ (.int .i64 ((x2 : Nat) : Int))).setCell ⟨q, 5, none⟩ (.bool (x3 == 1))).setCell ⟨q, 6, none⟩ (.int .i64 ((x4 : Nat) : Int))) HR4sss.out hl
  unfold Ru8Post at cc5
  rw [H5.out] at cc5
  have C5 := Lib.hid cc5
  clear cc5
  go_wp2_with fail
  with_reducible refine C5.out.mono ?_
  clear p0 p1 p2 p3 p4
  rintro x w5 ⟨rfl, hR5, hg5⟩
  have LP5 := Lib.hid (LP4sss.out.grown hg5 (fun e => hgp (by injection e)))
  have LE5 := Lib.hid (LE4sss.out.grown hg5 (fun e => by injection e; omega))
  have HR5 := Lib.hid hR5
  have BB5 := Lib.hid (BB4sss.out.grown hg5 (Nat.le_trans hBw BB4sss.out.size) (fun k hk => by injection hk with hk; omega))
  have KK5 := Lib.hid (KK4sss.out.grown hg5)
  clear hR5 hg5
  obtain ⟨p0, p1, p2, p3, p4⟩ := LP5.out.cellsP
  have f7 : w5.cell? ⟨q, 7, none⟩ = some (.int .i64 e.code) := LE5.out.cell 7
  have g7 : w5.frozen? ⟨q, 7, none⟩ = false := LE5.out.free 7
  have le : Lies (w5.setCell ⟨q, 7, none⟩ (.int .i64 ((x5 : Nat) : Int))) q 26 (evs { e with order := x1, step := x2, undo := (x3 == 1), tri := x4, code := x5 } nilV nilV) := LE5.out.put 7 _
  have LE5s := Lib.hid le
  clear le
  have LP5s := Lib.hid (LP5.out.other (a := ⟨q, 7, none⟩) hgq (.int .i64 ((x5 : Nat) : Int)))
  have HR5s := Lib.hid (HR5.out.setq hpq 7 (.int .i64 ((x5 : Nat) : Int)))
  have BB5s := Lib.hid (BB5.out.setCell (p := ⟨q, 7, none⟩) (by show B ≤ q; omega) (.int .i64 ((x5 : Nat) : Int)))
  have KK5s := Lib.hid (KK5.out.put 7 (.int .i64 ((x5 : Nat) : Int)))
  go_wp2
  go_end0
  exact ⟨rfl, nilV, nilV, LE5s.out, by show Own _ _ nilV e.key; rw [hkey]; exact Own.nil _ _, by show Own _ _ nilV e.data; rw [hdata]; exact Own.nil _ _, (fun g h => by cases h), BB5s.out, KK5s.out⟩

end Go.Proofs.Ytccpmalefdnhdaa
