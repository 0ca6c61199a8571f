/-
  The contracts of read: for each kind.
-/
import Derived.Test.YtccpmalefdnhdaaRd2
import Derived.Test.YtccpmalefdnhdaaOwnMem
namespace Go.Proofs.Ytccpmalefdnhdaa
open Go.RowKit

/-- All other blocks are as they were. -/
def Keep2 (p q : Nat) (w w' : World) : Prop := ∀ g t cs, g ≠ p → g ≠ q → Lies w g t cs → Lies w' g t cs
theorem Keep2.refl (p q : Nat) (w : World) : Keep2 p q w w := fun _ _ _ _ _ h => h
theorem Keep2.alloc {p q : Nat} {a w : World} (h : Keep2 p q a w) (o : Obj) : Keep2 p q a (w.alloc o) := fun g t cs h1 h2 h3 => (h g t cs h1 h2 h3).alloc o
theorem Keep2.grown {p q : Nat} {a w w' : World} (h : Keep2 p q a w) (hg : w.grownBy w' (some p)) : Keep2 p q a w' := fun g t cs h1 h2 h3 => (h g t cs h1 h2 h3).grown hg (fun e => h1 (by injection e))
theorem Keep2.put {p q : Nat} {a w : World} (h : Keep2 p q a w) (i : Nat) (v : Value) : Keep2 p q a (w.setCell ⟨q, i, none⟩ v) := fun g t cs h1 h2 h3 => (h g t cs h1 h2 h3).other (a := ⟨q, i, none⟩) h2 v
theorem Rd.setq {T : TypeId} {w : World} {p q : Nat} {s : Ent.St} {l : List Nat} (h : Rd T w p s l) (hpq : p < q) (o : Nat) (u : Value) : Rd T (w.setCell ⟨q, o, none⟩ u) p s l := by
  obtain ⟨A, c, hL, hB, h3, h4⟩ := h
  exact ⟨A, c, hL.other (a := ⟨q, o, none⟩) (by show p ≠ q; omega) u, hB.setOther (fun ad e => by have := h3 ad e; omega) u, h3, h4⟩
abbrev nilV : Value := .slice none 0 0
def ReadPost (w : World) (p q B : Nat) (e : Entry) (x : Ending) (w' : World) : Prop :=
  x = .returned (.tuple #[]) ∧ ∃ K D, Lies w' q 26 (evs e K D) ∧ Own w' w.heap.size K e.key ∧ Own w' w.heap.size D e.data ∧ (∀ g, K.ownBlock = some g → D.ownBlock ≠ some g) ∧ Below B w w' ∧ Keep2 p q w w'

set_option maxRecDepth 100000 in
set_option maxHeartbeats 1000000 in
theorem read1 (p q B : Nat) (l : List Nat) (s0 : Ent.St) (e : Entry) (w : World) (_hR : Rd 95 w p s0 l) (hE : Lies w q 26 (evs e nilV nilV)) (hpq : p < q) (hB : B ≤ p) (_hl : l.length ≤ 100000) (hkey : e.key = []) (hdata : e.data = []) :
    Calls Try.prog 43 #[.agg (pvs false false false 0 false), .pointer (some ⟨p, 0, none⟩), .pointer (some ⟨q, 0, none⟩)] w (ReadPost w p q B e) := by
  have hqw := hE.lt
  have hBw : B ≤ w.heap.size := by omega
  have hgq : w.heap.size ≠ q := by omega
  have hgp : w.heap.size ≠ p := by omega
  have HE := Lib.hid hE
  clear hE
  go_enter Try.func43, Try.ntmps43
  go_wp2
  go_end0
  exact ⟨rfl, nilV, nilV, HE.out.alloc _, by rw [hkey]; exact Own.nil _ _, by rw [hdata]; exact Own.nil _ _, (fun g h => by cases h), (Below.refl _ _).alloc hBw _, (Keep2.refl _ _ _).alloc _⟩

set_option maxRecDepth 100000 in
set_option maxHeartbeats 1000000 in
theorem read5 (p q B : Nat) (l : List Nat) (s0 : Ent.St) (e : Entry) (w : World) (x1 : Nat) (s1 : Ent.St) (h1 : Ent.rnum l 4 s0 = (x1, s1)) (x2 : Nat) (s2 : Ent.St) (h2 : Ent.rnum l 1 s1 = (x2, s2)) (hR : Rd 95 w p s0 l) (hE : Lies w q 26 (evs e nilV nilV)) (hpq : p < q) (hB : B ≤ p) (hl : l.length ≤ 100000) (hkey : e.key = []) (hdata : e.data = []) :
    Calls Try.prog 43 #[.agg (pvs true false false 3 false), .pointer (some ⟨p, 0, none⟩), .pointer (some ⟨q, 0, none⟩)] w (ReadPost w p q B { e with order := x1, code := x2 }) := by
  have hqw := hE.lt
  have hBw : B ≤ w.heap.size := by omega
  have hgq : w.heap.size ≠ q := by omega
  have hgp : w.heap.size ≠ p := by omega
  have LP0 := Lib.hid (Lies.made w 63 (pvs true false false 3 false))
  have LE0 := Lib.hid (hE.alloc (.cells (pvs true false false 3 false) 63))
  have HR0 := Lib.hid (hR.below ((Below.refl _ _).alloc (Nat.le_refl _) (.cells (pvs true false false 3 false) 63)))
  have BB0 := Lib.hid ((Below.refl B w).alloc hBw (.cells (pvs true false false 3 false) 63))
  have KK0 := Lib.hid ((Keep2.refl p q w).alloc (.cells (pvs true false false 3 false) 63))
  have hsm := hR.small
  have by2 : x2 < 256 := by have hq := Ent.rnum_lt l hsm 1 s1; rw [h2] at hq; exact hq
  clear hsm
  have H1 := Lib.hid h1
  have H2 := Lib.hid h2
  clear hR hE h1 h2
  go_enter Try.func43, Try.ntmps43
  have cc1 := ru32_any p s0 l (w.alloc (.cells (pvs true false false 3 false) 63)) HR0.out hl
  unfold Ru32Post at cc1
  rw [H1.out] at cc1
  have C1 := Lib.hid cc1
  clear cc1
  go_wp2_with fail
  with_reducible refine C1.out.mono ?_
  rintro x w1 ⟨rfl, hR1, hg1⟩
  have LP1 := Lib.hid (LP0.out.grown hg1 (fun e => hgp (by injection e)))
  have LE1 := Lib.hid (LE0.out.grown hg1 (fun e => by injection e; omega))
  have HR1 := Lib.hid hR1
  have BB1 := Lib.hid (BB0.out.grown hg1 (Nat.le_trans hBw BB0.out.size) (fun k hk => by injection hk with hk; omega))
  have KK1 := Lib.hid (KK0.out.grown hg1)
  clear hR1 hg1
  obtain ⟨p0, p1, p2, p3, p4⟩ := LP1.out.cellsP
  have f3 : w1.cell? ⟨q, 3, none⟩ = some (.int .u32 (e.order : Nat)) := LE1.out.cell 3
  have g3 : w1.frozen? ⟨q, 3, none⟩ = false := LE1.out.free 3
  have le : Lies (w1.setCell ⟨q, 3, none⟩ (.int .u32 ((x1 : Nat) : Int))) q 26 (evs { e with order := x1 } nilV nilV) := LE1.out.put 3 _
  have LE1s := Lib.hid le
  clear le
  have LP1s := Lib.hid (LP1.out.other (a := ⟨q, 3, none⟩) hgq (.int .u32 ((x1 : Nat) : Int)))
  have HR1s := Lib.hid (HR1.out.setq hpq 3 (.int .u32 ((x1 : Nat) : Int)))
  have BB1s := Lib.hid (BB1.out.setCell (p := ⟨q, 3, none⟩) (by show B ≤ q; omega) (.int .u32 ((x1 : Nat) : Int)))
  have KK1s := Lib.hid (KK1.out.put 3 (.int .u32 ((x1 : Nat) : Int)))
  have cc2 := ru8_any p s1 l (w1.setCell ⟨q, 3, none⟩ (.int .u32 ((x1 : Nat) : Int))) HR1s.out hl
  unfold Ru8Post at cc2
  rw [H2.out] at cc2
  have C2 := Lib.hid cc2
  clear cc2
  go_wp2_with fail
  with_reducible refine C2.out.mono ?_
  clear p0 p1 p2 p3 p4
  rintro x w2 ⟨rfl, hR2, hg2⟩
  have LP2 := Lib.hid (LP1s.out.grown hg2 (fun e => hgp (by injection e)))
  have LE2 := Lib.hid (LE1s.out.grown hg2 (fun e => by injection e; omega))
  have HR2 := Lib.hid hR2
  have BB2 := Lib.hid (BB1s.out.grown hg2 (Nat.le_trans hBw BB1s.out.size) (fun k hk => by injection hk with hk; omega))
  have KK2 := Lib.hid (KK1s.out.grown hg2)
  clear hR2 hg2
  obtain ⟨p0, p1, p2, p3, p4⟩ := LP2.out.cellsP
  have f7 : w2.cell? ⟨q, 7, none⟩ = some (.int .i64 e.code) := LE2.out.cell 7
  have g7 : w2.frozen? ⟨q, 7, none⟩ = false := LE2.out.free 7
  have le : Lies (w2.setCell ⟨q, 7, none⟩ (.int .i64 ((x2 : Nat) : Int))) q 26 (evs { e with order := x1, code := x2 } nilV nilV) := LE2.out.put 7 _
  have LE2s := Lib.hid le
  clear le
  have LP2s := Lib.hid (LP2.out.other (a := ⟨q, 7, none⟩) hgq (.int .i64 ((x2 : Nat) : Int)))
  have HR2s := Lib.hid (HR2.out.setq hpq 7 (.int .i64 ((x2 : Nat) : Int)))
  have BB2s := Lib.hid (BB2.out.setCell (p := ⟨q, 7, none⟩) (by show B ≤ q; omega) (.int .i64 ((x2 : Nat) : Int)))
  have KK2s := Lib.hid (KK2.out.put 7 (.int .i64 ((x2 : Nat) : Int)))
  go_wp2
  go_end0
  exact ⟨rfl, nilV, nilV, LE2s.out, by show Own _ _ nilV e.key; rw [hkey]; exact Own.nil _ _, by show Own _ _ nilV e.data; rw [hdata]; exact Own.nil _ _, (fun g h => by cases h), BB2s.out, KK2s.out⟩

set_option maxRecDepth 100000 in
set_option maxHeartbeats 1000000 in
theorem read6 (p q B : Nat) (l : List Nat) (s0 : Ent.St) (e : Entry) (w : World) (x1 : Nat) (s1 : Ent.St) (h1 : Ent.rnum l 1 s0 = (x1, s1)) (hR : Rd 95 w p s0 l) (hE : Lies w q 26 (evs e nilV nilV)) (hpq : p < q) (hB : B ≤ p) (hl : l.length ≤ 100000) (hkey : e.key = []) (hdata : e.data = []) :
    Calls Try.prog 43 #[.agg (pvs false false false 2 false), .pointer (some ⟨p, 0, none⟩), .pointer (some ⟨q, 0, none⟩)] w (ReadPost w p q B { e with code := x1 }) := by
  have hqw := hE.lt
  have hBw : B ≤ w.heap.size := by omega
  have hgq : w.heap.size ≠ q := by omega
  have hgp : w.heap.size ≠ p := by omega
  have LP0 := Lib.hid (Lies.made w 63 (pvs false false false 2 false))
  have LE0 := Lib.hid (hE.alloc (.cells (pvs false false false 2 false) 63))
  have HR0 := Lib.hid (hR.below ((Below.refl _ _).alloc (Nat.le_refl _) (.cells (pvs false false false 2 false) 63)))
  have BB0 := Lib.hid ((Below.refl B w).alloc hBw (.cells (pvs false false false 2 false) 63))
  have KK0 := Lib.hid ((Keep2.refl p q w).alloc (.cells (pvs false false false 2 false) 63))
  have hsm := hR.small
  have by1 : x1 < 256 := by have hq := Ent.rnum_lt l hsm 1 s0; rw [h1] at hq; exact hq
  clear hsm
  have H1 := Lib.hid h1
  clear hR hE h1
  go_enter Try.func43, Try.ntmps43
  have cc1 := ru8_any p s0 l (w.alloc (.cells (pvs false false false 2 false) 63)) HR0.out hl
  unfold Ru8Post at cc1
  rw [H1.out] at cc1
  have C1 := Lib.hid cc1
  clear cc1
  go_wp2_with fail
  with_reducible refine C1.out.mono ?_
  rintro x w1 ⟨rfl, hR1, hg1⟩
  have LP1 := Lib.hid (LP0.out.grown hg1 (fun e => hgp (by injection e)))
  have LE1 := Lib.hid (LE0.out.grown hg1 (fun e => by injection e; omega))
  have HR1 := Lib.hid hR1
  have BB1 := Lib.hid (BB0.out.grown hg1 (Nat.le_trans hBw BB0.out.size) (fun k hk => by injection hk with hk; omega))
  have KK1 := Lib.hid (KK0.out.grown hg1)
  clear hR1 hg1
  obtain ⟨p0, p1, p2, p3, p4⟩ := LP1.out.cellsP
  have f7 : w1.cell? ⟨q, 7, none⟩ = some (.int .i64 e.code) := LE1.out.cell 7
  have g7 : w1.frozen? ⟨q, 7, none⟩ = false := LE1.out.free 7
  have le : Lies (w1.setCell ⟨q, 7, none⟩ (.int .i64 ((x1 : Nat) : Int))) q 26 (evs { e with code := x1 } nilV nilV) := LE1.out.put 7 _
  have LE1s := Lib.hid le
  clear le
  have LP1s := Lib.hid (LP1.out.other (a := ⟨q, 7, none⟩) hgq (.int .i64 ((x1 : Nat) : Int)))
  have HR1s := Lib.hid (HR1.out.setq hpq 7 (.int .i64 ((x1 : Nat) : Int)))
  have BB1s := Lib.hid (BB1.out.setCell (p := ⟨q, 7, none⟩) (by show B ≤ q; omega) (.int .i64 ((x1 : Nat) : Int)))
  have KK1s := Lib.hid (KK1.out.put 7 (.int .i64 ((x1 : Nat) : Int)))
  go_wp2
  go_end0
  exact ⟨rfl, nilV, nilV, LE1s.out, by show Own _ _ nilV e.key; rw [hkey]; exact Own.nil _ _, by show Own _ _ nilV e.data; rw [hdata]; exact Own.nil _ _, (fun g h => by cases h), BB1s.out, KK1s.out⟩

set_option maxRecDepth 100000 in
set_option maxHeartbeats 1000000 in
theorem read7 (p q B : Nat) (l : List Nat) (s0 : Ent.St) (e : Entry) (w : World) (x1 : Nat) (s1 : Ent.St) (h1 : Ent.rnum l 8 s0 = (x1, s1)) (hR : Rd 95 w p s0 l) (hE : Lies w q 26 (evs e nilV nilV)) (hpq : p < q) (hB : B ≤ p) (hl : l.length ≤ 100000) (hkey : e.key = []) (hdata : e.data = []) :
    Calls Try.prog 43 #[.agg (pvs false false false 0 true), .pointer (some ⟨p, 0, none⟩), .pointer (some ⟨q, 0, none⟩)] w (ReadPost w p q B { e with mark := x1 }) := by
  have hqw := hE.lt
  have hBw : B ≤ w.heap.size := by omega
  have hgq : w.heap.size ≠ q := by omega
  have hgp : w.heap.size ≠ p := by omega
  have LP0 := Lib.hid (Lies.made w 63 (pvs false false false 0 true))
  have LE0 := Lib.hid (hE.alloc (.cells (pvs false false false 0 true) 63))
  have HR0 := Lib.hid (hR.below ((Below.refl _ _).alloc (Nat.le_refl _) (.cells (pvs false false false 0 true) 63)))
  have BB0 := Lib.hid ((Below.refl B w).alloc hBw (.cells (pvs false false false 0 true) 63))
  have KK0 := Lib.hid ((Keep2.refl p q w).alloc (.cells (pvs false false false 0 true) 63))
  have H1 := Lib.hid h1
  clear hR hE h1
  go_enter Try.func43, Try.ntmps43
  have cc1 := ru64_any p s0 l (w.alloc (.cells (pvs false false false 0 true) 63)) HR0.out hl
  unfold Ru64Post at cc1
  rw [H1.out] at cc1
  have C1 := Lib.hid cc1
  clear cc1
  go_wp2_with fail
  with_reducible refine C1.out.mono ?_
  rintro x w1 ⟨rfl, hR1, hg1⟩
  have LP1 := Lib.hid (LP0.out.grown hg1 (fun e => hgp (by injection e)))
  have LE1 := Lib.hid (LE0.out.grown hg1 (fun e => by injection e; omega))
  have HR1 := Lib.hid hR1
  have BB1 := Lib.hid (BB0.out.grown hg1 (Nat.le_trans hBw BB0.out.size) (fun k hk => by injection hk with hk; omega))
  have KK1 := Lib.hid (KK0.out.grown hg1)
  clear hR1 hg1
  obtain ⟨p0, p1, p2, p3, p4⟩ := LP1.out.cellsP
  have f8 : w1.cell? ⟨q, 8, none⟩ = some (.int .u64 (e.mark : Nat)) := LE1.out.cell 8
  have g8 : w1.frozen? ⟨q, 8, none⟩ = false := LE1.out.free 8
  have le : Lies (w1.setCell ⟨q, 8, none⟩ (.int .u64 ((x1 : Nat) : Int))) q 26 (evs { e with mark := x1 } nilV nilV) := LE1.out.put 8 _
  have LE1s := Lib.hid le
  clear le
  have LP1s := Lib.hid (LP1.out.other (a := ⟨q, 8, none⟩) hgq (.int .u64 ((x1 : Nat) : Int)))
  have HR1s := Lib.hid (HR1.out.setq hpq 8 (.int .u64 ((x1 : Nat) : Int)))
  have BB1s := Lib.hid (BB1.out.setCell (p := ⟨q, 8, none⟩) (by show B ≤ q; omega) (.int .u64 ((x1 : Nat) : Int)))
  have KK1s := Lib.hid (KK1.out.put 8 (.int .u64 ((x1 : Nat) : Int)))
  go_wp2
  go_end0
  exact ⟨rfl, nilV, nilV, LE1s.out, by show Own _ _ nilV e.key; rw [hkey]; exact Own.nil _ _, by show Own _ _ nilV e.data; rw [hdata]; exact Own.nil _ _, (fun g h => by cases h), BB1s.out, KK1s.out⟩

end Go.Proofs.Ytccpmalefdnhdaa
