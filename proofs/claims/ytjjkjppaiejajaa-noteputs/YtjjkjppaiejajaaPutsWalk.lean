/-
  The walk of NotePuts, out of the contracts.
-/
import Derived.Test.YtjjkjppaiejajaaLongFn
import Derived.Test.YtjjkjppaiejajaaRPut
import Derived.Test.YtjjkjppaiejajaaOwnFn
import Derived.Test.YtjjkjppaiejajaaNIn
import Derived.Deep.RegionHeld3
namespace Go.Proofs.Ytjjkjppaiejajaa
open Go.RowKit
set_option linter.unusedVariables false

/-- The new row of two slices. -/
theorem lrow_two (w : World) (B : Nat) (hB : B ≤ w.heap.size) (u v : Value) : LRow (w.alloc (.cells #[u, v] 24)) B (.slice (some ⟨w.heap.size, 0, none⟩) 2 2) [u, v] :=
  ⟨rfl, .inr ⟨w.heap.size, 2, #[u, v], rfl, hB, Lies.made w 24 _, Nat.le_refl _, by unfold maxLen; omega, rfl, rfl⟩⟩
theorem putB_len (e : Note) : (putB e).length ≤ 10000 := by
  unfold putB
  split
  · rename_i h
    have := Ent.enc_len e ((Ent.ok_iff e).1 h)
    omega
  · simp

set_option maxRecDepth 100000 in
set_option maxHeartbeats 400000 in
theorem puts_long (e : Note) (A1 A2 : Option Addr) (c1 c2 : Nat) (w : World) (h : longE e = true) :
    Calls Try.prog 3 #[.agg (evs e (.slice A1 e.key.length c1) (.slice A2 e.data.length c2))] w fun x w' => x = .returned (.bool true) ∧ Below w.heap.size w w' := by
  have C1 := fun W => Lib.hid (long_any e A1 A2 c1 c2 W)
  rw [h] at C1
  generalize Value.slice A1 e.key.length c1 = K at *
  generalize Value.slice A2 e.data.length c2 = D at *
  go_enter Try.func3, Try.ntmps3
  go_wp2_with fail
  with_reducible refine (C1 _).out.mono ?_
  rintro x w1 ⟨rfl, hb1⟩
  go_wp2_with fail
  with_reducible refine (known_any _).mono ?_
  rintro x w2 ⟨rfl, hb2⟩
  go_wp2
  go_ret
  have b1 : Below w.heap.size w w1 := ((Below.refl _ _).alloc (Nat.le_refl _) _).trans (hb1.mono (by simp))
  exact ⟨rfl, b1.trans (hb2.mono b1.size)⟩

set_option maxRecDepth 100000 in
set_option maxHeartbeats 8000000 in
theorem puts_short (e : Note) (A1 A2 : Option Addr) (c1 c2 : Nat) (w : World) (hV : EntV w e A1 A2 c1 c2) (hlong : longE e = false) :
    Calls Try.prog 3 #[.agg (evs e (.slice A1 e.key.length c1) (.slice A2 e.data.length c2))] w fun x w' => x = .returned (.bool true) ∧ Below w.heap.size w w' := by
  have hkl : e.key.length ≤ 1000 ∧ e.data.length ≤ 1000 := by unfold longE at hlong; simp at hlong; omega
  have C1 := fun W => Lib.hid (long_any e A1 A2 c1 c2 W)
  rw [hlong] at C1
  have CP := Lib.hid (fun B1 B2 d1 d2 W (h : EntV W e B1 B2 d1 d2) => put_any e B1 B2 d1 d2 W h.b h.txt)
  have CC := Lib.hid (fun B1 B2 d1 d2 W => check_any e B1 B2 d1 d2 W)
  have CR := Lib.hid (fun W (h : EntV W e A1 A2 c1 c2) => refPut_any e A1 A2 c1 c2 W h)
  unfold PutPost at CP CR
  unfold ChkPost at CC
  have HV := Lib.hid hV
  have hpl := putB_len e
  obtain ⟨n1, hn1⟩ : ∃ n, e.key.length = n := ⟨_, rfl⟩
  obtain ⟨n2, hn2⟩ : ∃ n, e.data.length = n := ⟨_, rfl⟩
  simp only [hn1, hn2] at C1 CP CC CR hkl
  rw [hn1, hn2]
  have b0 := (Below.refl w.heap.size w).alloc (Nat.le_refl _) (.cells (evs e (.slice A1 n1 c1) (.slice A2 n2 c2)) 26)
  have HN1 := Lib.hid hn1
  have HN2 := Lib.hid hn2
  obtain ⟨hk1, hk2⟩ := hkl
  clear hV hn1 hn2
  go_enter Try.func3, Try.ntmps3
  go_wp2_with fail
  with_reducible refine (C1 _).out.mono ?_
  rintro x w1 ⟨rfl, hb1⟩
  have L1 := (Lies.made w 26 (evs e (.slice A1 n1 c1) (.slice A2 n2 c2))).below hb1 (by simp)
  have b1 := b0.trans (hb1.mono b0.size)
  have hlt1 := L1.lt
  have hne1 : w.heap.size ≠ w1.heap.size := by omega
  obtain ⟨e0, e1, e2, e3, e4, e5, e6, e7, e8, e9, e10⟩ := L1.cellsE
  have hx1 : Below w1.heap.size w1 (w1.alloc (.cells (evs e (.slice A1 n1 c1) (.slice A2 n2 c2)) 26)) := (Below.refl _ _).alloc (Nat.le_refl _) _
  have BB1 := Lib.hid (b1.trans (hx1.mono b1.size))
  have HL1 := Lib.hid (L1.alloc (.cells (evs e (.slice A1 n1 c1) (.slice A2 n2 c2)) 26))
  have HX1 := Lib.hid (Lies.made w1 26 (evs e (.slice A1 n1 c1) (.slice A2 n2 c2)))
  have hK1 := (HV.out.below b1).k.below hx1
  rw [HN1.out] at hK1
  have CL1 := Lib.hid (lent_own A1 n1 c1 e.key _ hK1 HV.out.ka (by omega))
  clear hK1 L1 b1 hb1 hx1 b0 C1
  go_wp2_with fail
  with_reducible refine CL1.out.mono ?_
  rintro x w2 ⟨gk, ck, rfl, hck1, hck2, hgk, hOk, hb2⟩
  have hsz1 : (w1.alloc (.cells (evs e (.slice A1 n1 c1) (.slice A2 n2 c2)) 26)).heap.size = w1.heap.size + 1 := size_one _ _
  rw [hsz1] at hgk
  clear e0 e1 e2 e3 e4 e5 e6 e7 e8 e9 e10
  have L2 := HL1.out.below hb2 HL1.out.lt
  have X2 := HX1.out.below hb2 HX1.out.lt
  have x9 := X2.cell 9
  have y9 := X2.free 9
  have x10 : w2.cell? ⟨w1.heap.size, 10, none⟩ = some (.slice A2 n2 c2) := X2.cell 10
  have x9' : w2.cell? ⟨w1.heap.size, 9, none⟩ = some (.slice A1 n1 c1) := X2.cell 9
  have b2 := BB1.out.trans (hb2.mono BB1.out.size)
  have hw2 : w1.heap.size < w2.heap.size := X2.lt
  obtain ⟨W2, hW2⟩ : ∃ W, w2.setCell ⟨w1.heap.size, 9, none⟩ (.slice (some ⟨gk, 0, none⟩) n1 ck) = W := ⟨_, rfl⟩
  have X2' : Lies W2 w1.heap.size 26 (evs e (.slice (some ⟨gk, 0, none⟩) n1 ck) (.slice A2 n2 c2)) := by rw [← hW2]; exact X2.put 9 _
  have L2' : Lies W2 w.heap.size 26 (evs e (.slice A1 n1 c1) (.slice A2 n2 c2)) := by rw [← hW2]; exact L2.other (a := ⟨w1.heap.size, 9, none⟩) hne1 _
  have Ok2 : Own W2 (w1.heap.size + 1) (.slice (some ⟨gk, 0, none⟩) (n1 + 2) ck) (e.key ++ [91, 92]) := by rw [← hW2, ← hsz1]; exact hOk.setOther (a := ⟨w1.heap.size, 9, none⟩) (hOk.ne X2 (by decide)) _
  have bb2 : Below w.heap.size w W2 := by rw [← hW2]; exact b2.setCell (p := ⟨w1.heap.size, 9, none⟩) (by show w.heap.size ≤ w1.heap.size; omega) _
  have hsW2 : w1.heap.size + 1 ≤ W2.heap.size := X2'.lt
  have hD2 := (HV.out.below bb2).d
  rw [HN2.out] at hD2
  have CL2 := Lib.hid (lent_own A2 n2 c2 e.data W2 hD2 HV.out.da (by omega))
  obtain ⟨e0, e1, e2, e3, e4, e5, e6, e7, e8, e9, e10⟩ := L2'.cellsE
  have HX2 := Lib.hid X2'
  have HL2 := Lib.hid L2'
  have HOk2 := Lib.hid Ok2
  have BB2 := Lib.hid bb2
  have hgkW := Ok2.lt gk rfl
  have hnk : w.heap.size ≠ gk := by omega
  clear hD2 bb2 Ok2 X2' L2' hb2 hOk b2 x9 CL1 HL1 HX1 BB1 X2 L2
  go_wp2_with fail
  with_reducible refine CL2.out.mono ?_
  rintro x w3 ⟨gd, cd, rfl, hcd1, hcd2, hgd, hOd, hb3⟩
  clear e0 e1 e2 e3 e4 e5 e6 e7 e8 e9 e10 x9' y9 x10
  have L3 := HL2.out.below hb3 HL2.out.lt
  have X3 := HX2.out.below hb3 HX2.out.lt
  have Ok3 := HOk2.out.belowOwn hb3
  have b3 := BB2.out.trans (hb3.mono BB2.out.size)
  have y10 := X3.free 10
  have x10 : w3.cell? ⟨w1.heap.size, 10, none⟩ = some (.slice A2 n2 c2) := X3.cell 10
  obtain ⟨W3, hW3⟩ : ∃ W, w3.setCell ⟨w1.heap.size, 10, none⟩ (.slice (some ⟨gd, 0, none⟩) n2 cd) = W := ⟨_, rfl⟩
  have X3' : Lies W3 w1.heap.size 26 (evs e (.slice (some ⟨gk, 0, none⟩) n1 ck) (.slice (some ⟨gd, 0, none⟩) n2 cd)) := by rw [← hW3]; exact X3.put 10 _
  have L3' : Lies W3 w.heap.size 26 (evs e (.slice A1 n1 c1) (.slice A2 n2 c2)) := by rw [← hW3]; exact L3.other (a := ⟨w1.heap.size, 10, none⟩) hne1 _
  have Ok3' : Own W3 (w1.heap.size + 1) (.slice (some ⟨gk, 0, none⟩) (n1 + 2) ck) (e.key ++ [91, 92]) := by rw [← hW3]; exact Ok3.setOther (a := ⟨w1.heap.size, 10, none⟩) (Ok3.ne X3 (by decide)) _
  have Od3' : Own W3 W2.heap.size (.slice (some ⟨gd, 0, none⟩) (n2 + 2) cd) (e.data ++ [91, 92]) := by rw [← hW3]; exact hOd.setOther (a := ⟨w1.heap.size, 10, none⟩) (hOd.ne X3 (by decide)) _
  have bb3 : Below w.heap.size w W3 := by rw [← hW3]; exact b3.setCell (p := ⟨w1.heap.size, 10, none⟩) (by show w.heap.size ≤ w1.heap.size; omega) _
  have hgdW := Od3'.lt gd rfl
  have hgkW3 := Ok3'.lt gk rfl
  have hkb : Bys W3 (some ⟨gk, 0, none⟩) n1 e.key := Ok3'.bys.1.part HN1.out
  have hdb : Bys W3 (some ⟨gd, 0, none⟩) n2 e.data := Od3'.bys.1.part HN2.out
  have hVx : EntV W3 e (some ⟨gk, 0, none⟩) (some ⟨gd, 0, none⟩) ck cd := ⟨by rw [HN1.out]; exact hkb, by rw [HN1.out]; omega, hck2, (fun h => by cases h), by rw [HN2.out]; exact hdb, by rw [HN2.out]; omega, hcd2, (fun h => by cases h), HV.out.b⟩
  have HX3 := Lib.hid X3'
  have HL3 := Lib.hid L3'
  have HLT3 := Lib.hid L3'.lt
  have HOk3 := Lib.hid Ok3'
  have HOd3 := Lib.hid Od3'
  have BB3 := Lib.hid bb3
  have HVX := Lib.hid hVx
  obtain ⟨f0, f1, f2, f3, f4, f5, f6, f7, f8, f9, f10⟩ := X3'.cellsE
  have CPa := Lib.hid (CP.out (some ⟨gk, 0, none⟩) (some ⟨gd, 0, none⟩) ck cd W3 hVx)
  have hgkd : gk ≠ gd := by omega
  clear hVx bb3 Ok3' Od3' X3' L3' hb3 hOd b3 CL2 HL2 HX2 BB2 X3 L3 Ok3 HOk2 hkb hdb
  go_wp2_with fail
  with_reducible refine CPa.out.mono ?_
  rintro x w4 ⟨va, rfl, hOa, hb4⟩
  clear f0 f1 f2 f3 f4 f5 f6 f7 f8 f9 f10 y10 x10
  have HX4 := Lib.hid (HX3.out.below hb4 HX3.out.lt)
  obtain ⟨f0, f1, f2, f3, f4, f5, f6, f7, f8, f9, f10⟩ := HX4.out.cellsE
  obtain ⟨Aa, ca, rfl, _, _, _, _⟩ := hOa.slice
  have CPb := Lib.hid (CP.out (some ⟨gk, 0, none⟩) (some ⟨gd, 0, none⟩) ck cd w4 (HVX.out.below hb4))
  have HOa := Lib.hid hOa
  have HOaLt := Lib.hid hOa.lt
  have B34 := Lib.hid hb4
  clear hOa hb4 CPa CP
  go_wp2_with fail
  with_reducible refine CPb.out.mono ?_
  rintro x w5 ⟨vb, rfl, hOb, hb5⟩
  clear f0 f1 f2 f3 f4 f5 f6 f7 f8 f9 f10
  have HX5 := Lib.hid (HX4.out.below hb5 HX4.out.lt)
  obtain ⟨f0, f1, f2, f3, f4, f5, f6, f7, f8, f9, f10⟩ := HX5.out.cellsE
  obtain ⟨Ab, cb, rfl, _, _, _, _⟩ := hOb.slice
  have HOb := Lib.hid hOb
  have HOa5 := Lib.hid (HOa.out.belowOwn hb5)
  have B35 := Lib.hid (B34.out.trans (hb5.mono B34.out.size))
  have s45 : w4.heap.size ≤ w5.heap.size := hb5.size
  have s34 : W3.heap.size ≤ w4.heap.size := B34.out.size
  clear hOb hb5 CPb HX4 HOa B34
  go_wp2_with fail
  with_reducible refine (CC.out (some ⟨gk, 0, none⟩) (some ⟨gd, 0, none⟩) ck cd _).mono ?_
  rintro x w6 ⟨rfl, hb6⟩
  clear f0 f1 f2 f3 f4 f5 f6 f7 f8 f9 f10
  have HX6 := Lib.hid (HX5.out.below hb6 HX5.out.lt)
  have B36 := Lib.hid (B35.out.trans (hb6.mono B35.out.size))
  have BB6 := Lib.hid (BB3.out.trans (B36.out.mono BB3.out.size))
  have HL6 := Lib.hid (HL3.out.below B36.out HL3.out.lt)
  have HOk6 := Lib.hid (HOk3.out.belowOwn B36.out)
  have HOd6 := Lib.hid (HOd3.out.belowOwn B36.out)
  have HOa6 := Lib.hid (HOa5.out.belowOwn hb6)
  have HOb6 := Lib.hid (HOb.out.belowOwn hb6)
  obtain ⟨f0, f1, f2, f3, f4, f5, f6, f7, f8, f9, f10⟩ := HX6.out.cellsE
  obtain ⟨e0, e1, e2, e3, e4, e5, e6, e7, e8, e9, e10⟩ := HL6.out.cellsE
  have hKe := (HV.out.below BB6.out).k
  rw [HN1.out] at hKe
  have CW1 := Lib.hid (whole_any gk n1 ck A1 c1 e.key w6 HOk6.out.bys.1 hKe hck1 (by omega))
  clear hKe hb6 CC HX5 HOk3 HOd3 HOa5 HOb B35 HL3 HX3
  go_wp2_with fail
  with_reducible refine CW1.out.mono ?_
  rintro x w7 ⟨rfl, hb7⟩
  clear f0 f1 f2 f3 f4 f5 f6 f7 f8 f9 f10 e0 e1 e2 e3 e4 e5 e6 e7 e8 e9 e10
  have BB7 := Lib.hid (BB6.out.trans (hb7.mono BB6.out.size))
  have HX7 := Lib.hid (HX6.out.below hb7 HX6.out.lt)
  have HL7 := Lib.hid (HL6.out.below hb7 HL6.out.lt)
  have HOd7 := Lib.hid (HOd6.out.belowOwn hb7)
  obtain ⟨f0, f1, f2, f3, f4, f5, f6, f7, f8, f9, f10⟩ := HX7.out.cellsE
  obtain ⟨e0, e1, e2, e3, e4, e5, e6, e7, e8, e9, e10⟩ := HL7.out.cellsE
  have hDe := (HV.out.below BB7.out).d
  rw [HN2.out] at hDe
  have CW2 := Lib.hid (whole_any gd n2 cd A2 c2 e.data w7 HOd7.out.bys.1 hDe hcd1 (by omega))
  clear hDe CW1
  go_wp2_with fail
  with_reducible refine CW2.out.mono ?_
  rintro x w8 ⟨rfl, hb8⟩
  clear f0 f1 f2 f3 f4 f5 f6 f7 f8 f9 f10 e0 e1 e2 e3 e4 e5 e6 e7 e8 e9 e10
  have hb68 := hb7.trans (hb8.mono hb7.size)
  have BB8 := Lib.hid (BB6.out.trans (hb68.mono BB6.out.size))
  have HX8 := Lib.hid (HX6.out.below hb68 HX6.out.lt)
  have HL8 := Lib.hid (HL6.out.below hb68 HL6.out.lt)
  have HOk8 := Lib.hid (HOk6.out.belowOwn hb68)
  have HOd8 := Lib.hid (HOd6.out.belowOwn hb68)
  have HOa8 := Lib.hid (HOa6.out.belowOwn hb68)
  have HOb8 := Lib.hid (HOb6.out.belowOwn hb68)
  have s68 := hb68.size
  have s36 := B36.out.size
  obtain ⟨f0, f1, f2, f3, f4, f5, f6, f7, f8, f9, f10⟩ := HX8.out.cellsE
  have CS1 := Lib.hid (spoil_any gk n1 ck _ _ (n1 + 2) w8 HOk8.out (by omega) (by omega))
  clear hb7 hb8 hb68 CW2 HX7 HL7 HOd7 HX6 HL6 HOk6 HOd6 HOa6 HOb6
  go_wp2_with fail
  with_reducible refine CS1.out.mono ?_
  rintro x w9 ⟨rfl, hg9⟩
  clear f0 f1 f2 f3 f4 f5 f6 f7 f8 f9 f10
  have BB9 := Lib.hid (BB8.out.grown hg9 BB8.out.size (fun q hq => by injection hq with hq; omega))
  have HX9 := Lib.hid (HX8.out.grown hg9 (fun h => by injection h; omega))
  have HL9 := Lib.hid (HL8.out.grown hg9 (fun h => by injection h; omega))
  have HOd9 := Lib.hid (HOd8.out.grownOther hg9 (fun q hq h => by simp [Value.ownBlock] at hq; injection h with h; omega))
  have HOa9 := Lib.hid (HOa8.out.grownOther hg9 (fun q hq h => by have := HOa8.out.block q hq; injection h with h; omega))
  have HOb9 := Lib.hid (HOb8.out.grownOther hg9 (fun q hq h => by have := HOb8.out.block q hq; injection h with h; omega))
  obtain ⟨f0, f1, f2, f3, f4, f5, f6, f7, f8, f9, f10⟩ := HX9.out.cellsE
  have CS2 := Lib.hid (spoil_any gd n2 cd _ _ (n2 + 2) w9 HOd9.out (by omega) (by omega))
  have s89 := hg9.size
  clear hg9 CS1 HX8 HL8 HOk8 HOd8 HOa8 HOb8
  go_wp2_with fail
  with_reducible refine CS2.out.mono ?_
  rintro x w10 ⟨rfl, hg10⟩
  clear f0 f1 f2 f3 f4 f5 f6 f7 f8 f9 f10
  have BB10 := Lib.hid (BB9.out.grown hg10 BB9.out.size (fun q hq => by injection hq with hq; omega))
  have HL10 := Lib.hid (HL9.out.grown hg10 (fun h => by injection h; omega))
  have HOa10 := Lib.hid (HOa9.out.grownOther hg10 (fun q hq h => by have := HOa9.out.block q hq; injection h with h; omega))
  have HOb10 := Lib.hid (HOb9.out.grownOther hg10 (fun q hq h => by have := HOb9.out.block q hq; injection h with h; omega))
  obtain ⟨e0, e1, e2, e3, e4, e5, e6, e7, e8, e9, e10⟩ := HL10.out.cellsE
  have CRR := Lib.hid (CR.out w10 (HV.out.below BB10.out))
  have s910 := hg10.size
  clear hg10 CS2 HX9 HL9 HOd9 HOa9 HOb9 CR
  go_wp2_with fail
  with_reducible refine CRR.out.mono ?_
  rintro x w11 ⟨vw, rfl, hOw, hb11⟩
  clear e0 e1 e2 e3 e4 e5 e6 e7 e8 e9 e10
  obtain ⟨Aw, cw, rfl, _, _, _, _⟩ := hOw.slice
  have BB11 := Lib.hid (BB10.out.trans (hb11.mono BB10.out.size))
  have hOa11 := HOa10.out.belowOwn hb11
  have hOb11 := HOb10.out.belowOwn hb11
  have hsB : W3.heap.size ≤ w11.heap.size := by have := hb11.size; omega
  have hall : OwnAll w11 W3.heap.size ([] ++ [.slice Aa (putB e).length ca] ++ [.slice Ab (putB e).length cb]) ([] ++ [putB e] ++ [putB e]) := by
    refine OwnAll.snoc (OwnAll.snoc (OwnAll.nil _ _) hOa11 (fun v hv => by simp at hv)) (hOb11.mono s34) ?_
    intro v hv g hg hgb
    simp at hv
    subst hv
    have h1 := HOaLt.out g hg
    have h2 := hOb11.block g hgb
    omega
  have ca1 := fun W (hb : Below w11.drew.heap.size w11.drew W) => same_any Aa Aw _ _ ca cw _ _ W (hOa11.drew.bys.1.below hb) (hOw.drew.bys.1.below hb)
  have cb1 := fun W (hb : Below w11.drew.heap.size w11.drew W) => same_any Ab Aw _ _ cb cw _ _ W (hOb11.drew.bys.1.below hb) (hOw.drew.bys.1.below hb)
  simp only [sameB_self] at ca1 cb1
  have howc := fun W (hb : Below w11.drew.heap.size w11.drew W) => own_list (some ⟨W.heap.size, 0, none⟩) 2 2 _ _ W3.heap.size (W.alloc (.cells #[.slice Aa (putB e).length ca, .slice Ab (putB e).length cb] 24)) (lrow_two W W3.heap.size (Nat.le_trans hsB hb.size) _ _) ((hall.map fun _ _ h => h.drew.belowOwn hb).map fun _ _ h => h.alloc _) rfl (by omega) (fun x hx => by simp at hx; subst hx; exact hpl) (Nat.le_trans (Nat.le_trans hsB hb.size) (by simp))
  have CA := Lib.hid ca1
  have CB := Lib.hid cb1
  have COW := Lib.hid howc
  have hsw3 := BB3.out.size
  have k0 : w11.cell? ⟨w.heap.size, 0, none⟩ = some (.int .i64 e.kind) := (HL10.out.below hb11 HL10.out.lt).cell 0
  have HK0 := Lib.hid (fun W (hb : Below w11.drew.heap.size w11.drew W) => (hb.cell (block_lt_of_cell (w := w11.drew) k0)).trans k0)
  have hk3 : w.heap.size < W3.heap.size := HLT3.out
  have HK1 := Lib.hid (fun W (hb : Below W3.heap.size w11.drew W) => (hb.cell (p := ⟨w.heap.size, 0, none⟩) hk3).trans k0)
  have CNM := Lib.hid (fun W => names_any e.kind W)
  have CRN := Lib.hid (fun W => rnames_any e.kind W)
  have CK := Lib.hid (fun W => known_any W)
  unfold NamesPost at CNM
  unfold RNamesPost at CRN
  generalize str (Ent.lets e.kind) = SS at *
  clear ca1 cb1 howc hall hOa11 hOb11 hOw hb11 CRR HOa10 HOb10 HL10
  generalize (putB e).length = np at *
  generalize chkN e = cn at *
  go_wp2_with fail
  go_region_held3 (fun W => W.cell? ⟨w.heap.size, 0, none⟩ = some (.int .i64 e.kind))
    (first | go_keep | exact HK1.out _ HB15.out | exact HK1.out _ HB14.out | exact HK0.out _ HB12.out)
    (first
    | (go_at_call 18; (with_reducible refine (CNM.out _).mono ?_); rintro x wn ⟨rfl, hwn⟩; subst hwn)
    | (go_at_call 19; (with_reducible refine (CRN.out _).mono ?_); rintro x w12 ⟨rfl, hb12⟩; have HB12 := Lib.hid hb12; clear hb12)
    | (go_at_call 20; (with_reducible refine (CA.out _ HB12.out).mono ?_); rintro x wa ⟨rfl, rfl⟩)
    | (go_at_call 20; (with_reducible refine (CB.out _ HB12.out).mono ?_); rintro x wb ⟨rfl, rfl⟩)
    | (go_at_call 21; (with_reducible refine (COW.out _ HB12.out).mono ?_); rintro x w14 ⟨rfl, hb14⟩; have HB14 := Lib.hid (((HB12.out.mono hsB).alloc (Nat.le_trans hsB HB12.out.size) (.cells #[.slice Aa np ca, .slice Ab np cb] 24)).trans hb14); clear hb14)
    | (go_at_call 11; (with_reducible refine (CK.out _).mono ?_); rintro x w15 ⟨rfl, hb15⟩; have HB15 := Lib.hid (HB14.out.trans (hb15.mono (Nat.le_trans hsB HB14.out.size))); clear hb15))
  go_wp2
  go_ret
  exact ⟨rfl, BB11.out.drew.trans (HB15.out.mono hsw3)⟩

theorem notePuts_walk (e : Note) (A1 A2 : Option Addr) (c1 c2 : Nat) (w : World) (hV : EntV w e A1 A2 c1 c2) :
    Calls Try.prog 3 #[.agg (evs e (.slice A1 e.key.length c1) (.slice A2 e.data.length c2))] w fun x w' => x = .returned (.bool true) ∧ Below w.heap.size w w' := by
  by_cases hlong : longE e = true
  · exact puts_long e A1 A2 c1 c2 w hlong
  · exact puts_short e A1 A2 c1 c2 w hV (by simpa using hlong)

end Go.Proofs.Ytjjkjppaiejajaa
