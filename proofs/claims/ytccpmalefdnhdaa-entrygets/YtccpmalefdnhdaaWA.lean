/-
  The contracts of write: for each kind.
-/
import Derived.Test.YtccpmalefdnhdaaWrite
import Derived.Deep.RegionHeld3
namespace Go.Proofs.Ytccpmalefdnhdaa
open Go.RowKit
attribute [local go_sem ↓] Go.wp_at_zero Go.wp_at_succ

theorem Ent.txt_len (t : List Nat) : (Ent.txt t).length = 1 + t.length := by unfold Ent.txt; rw [List.length_append, Ent.be_len]
theorem Boxes.keep {w w' : World} {g : Nat} {o t s m : Bool} {c : Nat} {e : Entry} {K D : Value} (h : Boxes w g o t s m c e K D) (hk : Keep w w') : Boxes w' g o t s m c e K D :=
  ⟨hk _ _ _ (by decide) (by decide) h.p, hk _ _ _ (by decide) (by decide) h.e⟩
theorem Wr.drew {w : World} {p B : Nat} {l : List Nat} (h : Wr w p B l) : Wr w.drew p B l := h
theorem Boxes.drew {w : World} {g : Nat} {o t s m : Bool} {c : Nat} {e : Entry} {K D : Value} (h : Boxes w g o t s m c e K D) : Boxes w.drew g o t s m c e K D := ⟨h.p, h.e⟩
theorem Wr.size {w : World} {p B : Nat} {l : List Nat} (h : Wr w p B l) : B ≤ w.heap.size := by
  obtain ⟨h1, v, hL, _⟩ := h
  exact Nat.le_trans h1 (Nat.le_of_lt hL.lt)
def WritePost (w : World) (p B : Nat) (l : List Nat) (e : Ending) (w' : World) : Prop := e = .returned (.tuple #[]) ∧ Wr w' p B l ∧ Below B w w' ∧ Keep w w'
theorem wrap_u8 (q : Nat) (h : q < 256) : IntKind.u8.wrap (q : Int) = (q : Int) := by rw [IntKind.wrap_u8]; omega
theorem flag_any (u : Bool) (w : World) : Calls Try.prog 51 #[.bool u] w fun x w' => x = .returned (.int .u8 (Ent.b2n u : Nat)) ∧ w = w' := by
  cases u
  · go_enter Try.func51, Try.ntmps51
    go_wp2
    go_ret
    exact ⟨rfl, rfl⟩
  · go_enter Try.func51, Try.ntmps51
    go_wp2
    go_ret
    exact ⟨rfl, rfl⟩

set_option maxRecDepth 100000 in
set_option maxHeartbeats 1000000 in
theorem write1 (p B : Nat) (l : List Nat) (e : Entry) (K D : Value) (w : World) (hW : Wr w p B l) (_hl : l.length ≤ 500) :
    Calls Try.prog 33 #[.agg (pvs false false false 0 false), .pointer (some ⟨p, 0, none⟩), .agg (evs e K D)] w (WritePost w p B (l)) := by
  have hBw := hW.size
  have HW := Lib.hid hW
  clear hW
  have B0 := Lib.hid (Boxes.made w false false false false 0 e K D)
  have b0 := below2 w (.cells (pvs false false false 0 false) 63) (.cells (evs e K D) 26)
  have HW0 := Lib.hid (HW.out.below b0)
  have BB0 := Lib.hid (b0.mono hBw)
  have KK0 := Lib.hid (((Keep.refl w).alloc (.cells (pvs false false false 0 false) 63)).alloc (.cells (evs e K D) 26))
  clear b0
  go_enter Try.func33, Try.ntmps33
  go_wp2
  go_end0
  exact ⟨rfl, HW0.out, BB0.out, KK0.out⟩

set_option maxRecDepth 100000 in
set_option maxHeartbeats 1000000 in
theorem write2 (p B : Nat) (l : List Nat) (e : Entry) (A1 A2 : Option Addr) (c1 c2 : Nat) (w : World) (hW : Wr w p B l) (hl : l.length ≤ 500) (hK : Bys w A1 e.key.length e.key) (hKl : Low B A1 e.key.length) (hKA : A1 = none → c1 = 0) (hK1 : e.key.length ≤ 32) (hD : Bys w A2 e.data.length e.data) (hDl : Low B A2 e.data.length) (hDA : A2 = none → c2 = 0) (hD1 : e.data.length ≤ 200) (ho : e.order < 4294967296) :
    Calls Try.prog 33 #[.agg (pvs true true false 0 false), .pointer (some ⟨p, 0, none⟩), .agg (evs e (.slice A1 e.key.length c1) (.slice A2 e.data.length c2))] w (WritePost w p B (l ++ Ent.be 4 e.order ++ Ent.txt e.key ++ Ent.txt e.data)) := by
  obtain ⟨n1, hn1⟩ : ∃ n, e.key.length = n := ⟨_, rfl⟩
  obtain ⟨n2, hn2⟩ : ∃ n, e.data.length = n := ⟨_, rfl⟩
  rw [hn1] at hK hKl hK1 ⊢
  rw [hn2] at hD hDl hD1 ⊢
  have HK := Lib.hid hK
  have HKL := Lib.hid hKl
  have HKA := Lib.hid hKA
  have HD := Lib.hid hD
  have HDL := Lib.hid hDl
  have HDA := Lib.hid hDA
  have HN1 := Lib.hid hn1
  have HN2 := Lib.hid hn2
  clear hK hKl hKA hD hDl hDA hn1 hn2
  have hBw := hW.size
  have HW := Lib.hid hW
  clear hW
  have B0 := Lib.hid (Boxes.made w true true false false 0 e (.slice A1 n1 c1) (.slice A2 n2 c2))
  have b0 := below2 w (.cells (pvs true true false 0 false) 63) (.cells (evs e (.slice A1 n1 c1) (.slice A2 n2 c2)) 26)
  have HW0 := Lib.hid (HW.out.below b0)
  have BB0 := Lib.hid (b0.mono hBw)
  have KK0 := Lib.hid (((Keep.refl w).alloc (.cells (pvs true true false 0 false) 63)).alloc (.cells (evs e (.slice A1 n1 c1) (.slice A2 n2 c2)) 26))
  clear b0
  go_enter Try.func33, Try.ntmps33
  go_wp2_with fail
  have cc := wu32_any p B e.order (l) _ HW0.out ho (by omega)
  with_reducible refine cc.mono ?_
  clear cc
  rintro x w1 ⟨rfl, hW1, hb1, hk1⟩
  have B1 := Lib.hid (B0.out.keep hk1)
  have BB1 := Lib.hid (BB0.out.trans hb1)
  have KK1 := Lib.hid (KK0.out.trans hk1)
  have HW1 := Lib.hid hW1
  clear hW1 hb1 hk1
  obtain ⟨p0, p1, p2, p3, p4⟩ := B1.out.p.cellsP
  obtain ⟨e0, e1, e2, e3, e4, e5, e6, e7, e8, e9, e10⟩ := B1.out.e.cellsE
  clear e0 e1 e2 e4 e5 e6 e7 e8
  have HK1 := Lib.hid (HK.out.belowB HKL.out BB1.out)
  have cc1 := wtext_any p B (l ++ Ent.be 4 e.order) e.key A1 n1 c1 w1.drew HW1.out.drew HK1.out.drew HKL.out HKA.out (by omega) (by have h0 := Ent.be_len 4 e.order; simp only [List.length_append]; omega)
  have C1 := Lib.hid cc1
  have cc2 := fun W (h1 : Wr W p B (l ++ Ent.be 4 e.order ++ Ent.txt e.key)) (h2 : Bys W A2 n2 e.data) => wtext_any p B (l ++ Ent.be 4 e.order ++ Ent.txt e.key) e.data A2 n2 c2 W h1 h2 HDL.out HDA.out (by omega) (by have h0 := Ent.be_len 4 e.order; have h1 := Ent.txt_len e.key; rw [HN1.out] at h1; simp only [List.length_append]; omega)
  have C2 := Lib.hid cc2
  clear cc1 cc2
  go_wp2_with fail
  go_region_held3 (fun W => W.cell? ⟨w.heap.size + 1, 9, none⟩ = some (.slice A1 n1 c1) ∧ W.cell? ⟨w.heap.size + 1, 10, none⟩ = some (.slice A2 n2 c2)) (first | go_keep | (obtain ⟨_, _, _, _, _, _, _, _, _, f9, f10⟩ := B3.out.e.cellsE; exact ⟨f9, f10⟩) | (obtain ⟨_, _, _, _, _, _, _, _, _, f9, f10⟩ := B2.out.e.cellsE; exact ⟨f9, f10⟩))
    (first
    | (go_at_call 50; (with_reducible refine C1.out.mono ?_); rintro x w2 ⟨rfl, hW2, hb2, hk2⟩; have B2 := Lib.hid (B1.out.drew.keep hk2); have BB2 := Lib.hid (BB1.out.drew.trans hb2); have KK2 := Lib.hid (KK1.out.drew.trans hk2); have HW2 := Lib.hid hW2; have HD2 := Lib.hid (HD.out.belowB HDL.out BB2.out); clear hW2 hb2 hk2)
    | (go_at_call 50; (with_reducible refine (C2.out _ HW2.out HD2.out).mono ?_); rintro x w3 ⟨rfl, hW3, hb3, hk3⟩; have B3 := Lib.hid (B2.out.keep hk3); have BB3 := Lib.hid (BB2.out.trans hb3); have KK3 := Lib.hid (KK2.out.trans hk3); have HW3 := Lib.hid hW3; clear hW3 hb3 hk3))
  clear p0 p1 p2 p3 p4 e3 e9 e10
  obtain ⟨p0, p1, p2, p3, p4⟩ := B3.out.p.cellsP
  obtain ⟨e0, e1, e2, e3, e4, e5, e6, e7, e8, e9, e10⟩ := B3.out.e.cellsE
  clear e0 e1 e2 e4 e5 e6 e7 e8
  go_wp2
  go_end0
  exact ⟨rfl, HW3.out, BB3.out, KK3.out⟩

set_option maxRecDepth 100000 in
set_option maxHeartbeats 1000000 in
theorem write5 (p B : Nat) (l : List Nat) (e : Entry) (K D : Value) (q3 : Nat) (w : World) (hW : Wr w p B l) (hl : l.length ≤ 500) (ho : e.order < 4294967296) (hc : e.code = (q3 : Int)) (hq3 : q3 < 256) :
    Calls Try.prog 33 #[.agg (pvs true false false 3 false), .pointer (some ⟨p, 0, none⟩), .agg (evs e K D)] w (WritePost w p B (l ++ Ent.be 4 e.order ++ Ent.be 1 q3)) := by
  have HC := Lib.hid hc
  have hx3 := wrap_u8 q3 hq3
  clear hc
  have hBw := hW.size
  have HW := Lib.hid hW
  clear hW
  have B0 := Lib.hid (Boxes.made w true false false false 3 e K D)
  have b0 := below2 w (.cells (pvs true false false 3 false) 63) (.cells (evs e K D) 26)
  have HW0 := Lib.hid (HW.out.below b0)
  have BB0 := Lib.hid (b0.mono hBw)
  have KK0 := Lib.hid (((Keep.refl w).alloc (.cells (pvs true false false 3 false) 63)).alloc (.cells (evs e K D) 26))
  clear b0
  go_enter Try.func33, Try.ntmps33
  go_wp2_with fail
  have cc := wu32_any p B e.order (l) _ HW0.out ho (by omega)
  with_reducible refine cc.mono ?_
  clear cc
  rintro x w1 ⟨rfl, hW1, hb1, hk1⟩
  have B1 := Lib.hid (B0.out.keep hk1)
  have BB1 := Lib.hid (BB0.out.trans hb1)
  have KK1 := Lib.hid (KK0.out.trans hk1)
  have HW1 := Lib.hid hW1
  clear hW1 hb1 hk1
  obtain ⟨p0, p1, p2, p3, p4⟩ := B1.out.p.cellsP
  obtain ⟨e0, e1, e2, e3, e4, e5, e6, e7, e8, e9, e10⟩ := B1.out.e.cellsE
  rw [HC.out] at e7
  clear e0 e1 e2 e9 e10 e4 e5 e6 e8
  go_wp2_with fail
  have cc := wu8_any p B q3 (l ++ Ent.be 4 e.order) _ HW1.out hq3 (by have h0 := Ent.be_len 4 e.order; simp only [List.length_append]; omega)
  with_reducible refine cc.mono ?_
  clear cc
  rintro x w2 ⟨rfl, hW2, hb2, hk2⟩
  clear p0 p1 p2 p3 p4 e3 e7
  have B2 := Lib.hid (B1.out.keep hk2)
  have BB2 := Lib.hid (BB1.out.trans hb2)
  have KK2 := Lib.hid (KK1.out.trans hk2)
  have HW2 := Lib.hid hW2
  clear hW2 hb2 hk2
  obtain ⟨p0, p1, p2, p3, p4⟩ := B2.out.p.cellsP
  obtain ⟨e0, e1, e2, e3, e4, e5, e6, e7, e8, e9, e10⟩ := B2.out.e.cellsE
  rw [HC.out] at e7
  clear e0 e1 e2 e9 e10 e4 e5 e6 e8
  go_wp2
  go_end0
  exact ⟨rfl, HW2.out, BB2.out, KK2.out⟩

set_option maxRecDepth 100000 in
set_option maxHeartbeats 1000000 in
theorem write6 (p B : Nat) (l : List Nat) (e : Entry) (K D : Value) (q3 : Nat) (w : World) (hW : Wr w p B l) (hl : l.length ≤ 500) (hc : e.code = (q3 : Int)) (hq3 : q3 < 256) :
    Calls Try.prog 33 #[.agg (pvs false false false 2 false), .pointer (some ⟨p, 0, none⟩), .agg (evs e K D)] w (WritePost w p B (l ++ Ent.be 1 q3)) := by
  have HC := Lib.hid hc
  have hx3 := wrap_u8 q3 hq3
  have hBw := hW.size
  have HW := Lib.hid hW
  clear hW
  have B0 := Lib.hid (Boxes.made w false false false false 2 e K D)
  have b0 := below2 w (.cells (pvs false false false 2 false) 63) (.cells (evs e K D) 26)
  have HW0 := Lib.hid (HW.out.below b0)
  have BB0 := Lib.hid (b0.mono hBw)
  have KK0 := Lib.hid (((Keep.refl w).alloc (.cells (pvs false false false 2 false) 63)).alloc (.cells (evs e K D) 26))
  clear b0
  go_enter Try.func33, Try.ntmps33
  go_wp2_with fail
  have cc := wu8_any p B q3 (l) _ HW0.out hq3 (by omega)
  with_reducible refine cc.mono ?_
  clear cc
  rintro x w1 ⟨rfl, hW1, hb1, hk1⟩
  have B1 := Lib.hid (B0.out.keep hk1)
  have BB1 := Lib.hid (BB0.out.trans hb1)
  have KK1 := Lib.hid (KK0.out.trans hk1)
  have HW1 := Lib.hid hW1
  clear hW1 hb1 hk1
  obtain ⟨p0, p1, p2, p3, p4⟩ := B1.out.p.cellsP
  obtain ⟨e0, e1, e2, e3, e4, e5, e6, e7, e8, e9, e10⟩ := B1.out.e.cellsE
  rw [HC.out] at e7
  clear e0 e1 e2 e9 e10 e3 e4 e5 e6 e8
  go_wp2
  go_end0
  exact ⟨rfl, HW1.out, BB1.out, KK1.out⟩

set_option maxRecDepth 100000 in
set_option maxHeartbeats 1000000 in
theorem write7 (p B : Nat) (l : List Nat) (e : Entry) (K D : Value) (w : World) (hW : Wr w p B l) (hl : l.length ≤ 500) :
    Calls Try.prog 33 #[.agg (pvs false false false 0 true), .pointer (some ⟨p, 0, none⟩), .agg (evs e K D)] w (WritePost w p B (l ++ Ent.be 8 e.mark)) := by
  have hBw := hW.size
  have HW := Lib.hid hW
  clear hW
  have B0 := Lib.hid (Boxes.made w false false false true 0 e K D)
  have b0 := below2 w (.cells (pvs false false false 0 true) 63) (.cells (evs e K D) 26)
  have HW0 := Lib.hid (HW.out.below b0)
  have BB0 := Lib.hid (b0.mono hBw)
  have KK0 := Lib.hid (((Keep.refl w).alloc (.cells (pvs false false false 0 true) 63)).alloc (.cells (evs e K D) 26))
  clear b0
  go_enter Try.func33, Try.ntmps33
  go_wp2_with fail
  have cc := wu64_any p B e.mark (l) _ HW0.out (by omega)
  with_reducible refine cc.mono ?_
  clear cc
  rintro x w1 ⟨rfl, hW1, hb1, hk1⟩
  have B1 := Lib.hid (B0.out.keep hk1)
  have BB1 := Lib.hid (BB0.out.trans hb1)
  have KK1 := Lib.hid (KK0.out.trans hk1)
  have HW1 := Lib.hid hW1
  clear hW1 hb1 hk1
  obtain ⟨p0, p1, p2, p3, p4⟩ := B1.out.p.cellsP
  obtain ⟨e0, e1, e2, e3, e4, e5, e6, e7, e8, e9, e10⟩ := B1.out.e.cellsE
  clear e0 e1 e2 e9 e10 e3 e4 e5 e6 e7
  go_wp2
  go_end0
  exact ⟨rfl, HW1.out, BB1.out, KK1.out⟩

end Go.Proofs.Ytccpmalefdnhdaa
