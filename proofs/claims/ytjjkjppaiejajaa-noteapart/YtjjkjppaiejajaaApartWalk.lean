/-
  The walk of NoteApart, out of the contracts.
-/
import Derived.Test.YtjjkjppaiejajaaLongFn
import Derived.Test.YtjjkjppaiejajaaSame5
import Derived.Test.YtjjkjppaiejajaaNIn
import Derived.Deep.RegionHeld3
namespace Go.Proofs.Ytjjkjppaiejajaa
open Go.RowKit
set_option linter.unusedVariables false

set_option maxRecDepth 100000 in
set_option maxHeartbeats 1000000 in
theorem apart_long1 (a b : Note) (A1 A2 B1 B2 : Option Addr) (c1 c2 d1 d2 : Nat) (w : World) (hA : EntV w a A1 A2 c1 c2) (hB : EntV w b B1 B2 d1 d2) (h : longE a = true) :
    Calls Try.prog 8 #[.agg (evs a (.slice A1 a.key.length c1) (.slice A2 a.data.length c2)), .agg (evs b (.slice B1 b.key.length d1) (.slice B2 b.data.length d2))] w fun x w' => x = .returned (.bool true) ∧ Below w.heap.size w w' := by
  have C1 := fun W => Lib.hid (long_any a A1 A2 c1 c2 W)
  rw [h] at C1
  generalize Value.slice A1 a.key.length c1 = K at *
  generalize Value.slice A2 a.data.length c2 = D at *
  generalize Value.slice B1 b.key.length d1 = K2 at *
  generalize Value.slice B2 b.data.length d2 = D2 at *
  have b0 := below2 w (.cells (evs a K D) 26) (.cells (evs b K2 D2) 26)
  go_enter Try.func8, Try.ntmps8
  go_wp2_with fail
  with_reducible refine (C1 _).out.mono ?_
  rintro x w1 ⟨rfl, hb1⟩
  go_wp2_with fail
  with_reducible refine (known_any _).mono ?_
  rintro x w2 ⟨rfl, hb2⟩
  go_wp2
  go_ret
  have b1 := b0.trans (hb1.mono b0.size)
  exact ⟨rfl, b1.trans (hb2.mono b1.size)⟩

set_option maxRecDepth 100000 in
set_option maxHeartbeats 1000000 in
theorem apart_long2 (a b : Note) (A1 A2 B1 B2 : Option Addr) (c1 c2 d1 d2 : Nat) (w : World) (hA : EntV w a A1 A2 c1 c2) (hB : EntV w b B1 B2 d1 d2) (h1 : longE a = false) (h2 : longE b = true) :
    Calls Try.prog 8 #[.agg (evs a (.slice A1 a.key.length c1) (.slice A2 a.data.length c2)), .agg (evs b (.slice B1 b.key.length d1) (.slice B2 b.data.length d2))] w fun x w' => x = .returned (.bool true) ∧ Below w.heap.size w w' := by
  have C1 := fun W => Lib.hid (long_any a A1 A2 c1 c2 W)
  have C2 := fun W => Lib.hid (long_any b B1 B2 d1 d2 W)
  rw [h1] at C1
  rw [h2] at C2
  generalize Value.slice A1 a.key.length c1 = K at *
  generalize Value.slice A2 a.data.length c2 = D at *
  generalize Value.slice B1 b.key.length d1 = K2 at *
  generalize Value.slice B2 b.data.length d2 = D2 at *
  have b0 := below2 w (.cells (evs a K D) 26) (.cells (evs b K2 D2) 26)
  go_enter Try.func8, Try.ntmps8
  go_wp2_with fail
  with_reducible refine (C1 _).out.mono ?_
  rintro x w1 ⟨rfl, hb1⟩
  have LB := (Lies.made2 w (.cells (evs a K D) 26) 26 (evs b K2 D2)).below hb1 (by simp)
  have b1 := b0.trans (hb1.mono b0.size)
  obtain ⟨f0, f1, f2, f3, f4, f5, f6, f7, f8, f9, f10⟩ := LB.cellsE
  clear LB b0 hb1
  go_wp2_with fail
  with_reducible refine (C2 _).out.mono ?_
  rintro x w2 ⟨rfl, hb2⟩
  clear f0 f1 f2 f3 f4 f5 f6 f7 f8 f9 f10
  go_wp2_with fail
  with_reducible refine (known_any _).mono ?_
  rintro x w3 ⟨rfl, hb3⟩
  go_wp2
  go_ret
  have b2 := b1.trans (hb2.mono b1.size)
  exact ⟨rfl, b2.trans (hb3.mono b2.size)⟩

set_option maxRecDepth 100000 in
set_option maxHeartbeats 4000000 in
theorem apart_ko1 (a b : Note) (A1 A2 B1 B2 : Option Addr) (c1 c2 d1 d2 : Nat) (w : World) (hA : EntV w a A1 A2 c1 c2) (hB : EntV w b B1 B2 d1 d2) (h1 : longE a = false) (h2 : longE b = false) (ha : ¬ Ent.ok a = true) :
    Calls Try.prog 8 #[.agg (evs a (.slice A1 a.key.length c1) (.slice A2 a.data.length c2)), .agg (evs b (.slice B1 b.key.length d1) (.slice B2 b.data.length d2))] w fun x w' => x = .returned (.bool true) ∧ Below w.heap.size w w' := by
  have C1 := fun W => Lib.hid (long_any a A1 A2 c1 c2 W)
  have C2 := fun W => Lib.hid (long_any b B1 B2 d1 d2 W)
  rw [h1] at C1
  rw [h2] at C2
  have CA := Lib.hid (fun W (h : EntV W a A1 A2 c1 c2) => put_any a A1 A2 c1 c2 W h.b h.txt)
  have CB := Lib.hid (fun W (h : EntV W b B1 B2 d1 d2) => put_any b B1 B2 d1 d2 W h.b h.txt)
  unfold PutPost at CA CB
  rw [show chkN a = 50 from by unfold chkN; rw [if_neg ha]] at CA
  have HA := Lib.hid hA
  have HB := Lib.hid hB
  obtain ⟨n1, hn1⟩ : ∃ n, a.key.length = n := ⟨_, rfl⟩
  obtain ⟨n2, hn2⟩ : ∃ n, a.data.length = n := ⟨_, rfl⟩
  obtain ⟨m1, hm1⟩ : ∃ n, b.key.length = n := ⟨_, rfl⟩
  obtain ⟨m2, hm2⟩ : ∃ n, b.data.length = n := ⟨_, rfl⟩
  simp only [hn1, hn2] at C1 CA
  simp only [hm1, hm2] at C2 CB
  rw [hn1, hn2, hm1, hm2]
  have HN := Lib.hid (show _ ∧ _ ∧ _ ∧ _ from ⟨hn1, hn2, hm1, hm2⟩)
  have b0 := below2 w (.cells (evs a (.slice A1 n1 c1) (.slice A2 n2 c2)) 26) (.cells (evs b (.slice B1 m1 d1) (.slice B2 m2 d2)) 26)
  clear hA hB hn1 hn2 hm1 hm2
  go_enter Try.func8, Try.ntmps8
  go_wp2_with fail
  with_reducible refine (C1 _).out.mono ?_
  rintro x w1 ⟨rfl, hb1⟩
  have LA1 := Lib.hid (((Lies.made w 26 (evs a (.slice A1 n1 c1) (.slice A2 n2 c2))).alloc (.cells (evs b (.slice B1 m1 d1) (.slice B2 m2 d2)) 26)).below hb1 (by simp; omega))
  have LB1 := Lib.hid ((Lies.made2 w (.cells (evs a (.slice A1 n1 c1) (.slice A2 n2 c2)) 26) 26 (evs b (.slice B1 m1 d1) (.slice B2 m2 d2))).below hb1 (by simp))
  have BB1 := Lib.hid (b0.trans (hb1.mono b0.size))
  obtain ⟨f0, f1, f2, f3, f4, f5, f6, f7, f8, f9, f10⟩ := LB1.out.cellsE
  clear b0 hb1 C1
  go_wp2_with fail
  with_reducible refine (C2 _).out.mono ?_
  rintro x w2 ⟨rfl, hb2⟩
  clear f0 f1 f2 f3 f4 f5 f6 f7 f8 f9 f10
  have LA2 := Lib.hid (LA1.out.below hb2 LA1.out.lt)
  have LB2 := Lib.hid (LB1.out.below hb2 LB1.out.lt)
  have BB2 := Lib.hid (BB1.out.trans (hb2.mono BB1.out.size))
  have CAA := Lib.hid (CA.out w2 (HA.out.below BB2.out))
  obtain ⟨e0, e1, e2, e3, e4, e5, e6, e7, e8, e9, e10⟩ := LA2.out.cellsE
  clear hb2 C2 LA1 LB1 BB1 CA
  go_wp2_with fail
  with_reducible refine CAA.out.mono ?_
  rintro x w3 ⟨v3, rfl, hO3, hb3⟩
  clear e0 e1 e2 e3 e4 e5 e6 e7 e8 e9 e10
  have LA3 := Lib.hid (LA2.out.below hb3 LA2.out.lt)
  have LB3 := Lib.hid (LB2.out.below hb3 LB2.out.lt)
  have BB3 := Lib.hid (BB2.out.trans (hb3.mono BB2.out.size))
  have CBB := Lib.hid (CB.out w3 (HB.out.below BB3.out))
  obtain ⟨X3, x3, rfl, hX3, _, _, _⟩ := hO3.slice
  have HX3 := Lib.hid hX3
  obtain ⟨f0, f1, f2, f3, f4, f5, f6, f7, f8, f9, f10⟩ := LB3.out.cellsE
  clear hb3 LA2 LB2 BB2 CB CAA hO3 hX3
  go_wp2_with fail
  with_reducible refine CBB.out.mono ?_
  rintro x w4 ⟨v4, rfl, hO4, hb4⟩
  clear f0 f1 f2 f3 f4 f5 f6 f7 f8 f9 f10
  have LA4 := Lib.hid (LA3.out.below hb4 LA3.out.lt)
  have LB4 := Lib.hid (LB3.out.below hb4 LB3.out.lt)
  have BB4 := Lib.hid (BB3.out.trans (hb4.mono BB3.out.size))
  have HX4 := Lib.hid (HX3.out.below hb4)
  obtain ⟨Y4, y4, rfl, hY4, _, _, _⟩ := hO4.slice
  have HY4 := Lib.hid hY4
  clear hb4 LA3 LB3 BB3 CBB hO4 hY4 HX3
  go_wp2_with fail
  with_reducible refine (known_any _).mono ?_
  rintro x w5 ⟨rfl, hb5⟩
  go_wp2
  go_ret
  exact ⟨rfl, BB4.out.trans (hb5.mono BB4.out.size)⟩

set_option maxRecDepth 100000 in
set_option maxHeartbeats 4000000 in
theorem apart_ko2 (a b : Note) (A1 A2 B1 B2 : Option Addr) (c1 c2 d1 d2 : Nat) (w : World) (hA : EntV w a A1 A2 c1 c2) (hB : EntV w b B1 B2 d1 d2) (h1 : longE a = false) (h2 : longE b = false) (ha : Ent.ok a = true) (hb : ¬ Ent.ok b = true) :
    Calls Try.prog 8 #[.agg (evs a (.slice A1 a.key.length c1) (.slice A2 a.data.length c2)), .agg (evs b (.slice B1 b.key.length d1) (.slice B2 b.data.length d2))] w fun x w' => x = .returned (.bool true) ∧ Below w.heap.size w w' := by
  have C1 := fun W => Lib.hid (long_any a A1 A2 c1 c2 W)
  have C2 := fun W => Lib.hid (long_any b B1 B2 d1 d2 W)
  rw [h1] at C1
  rw [h2] at C2
  have CA := Lib.hid (fun W (h : EntV W a A1 A2 c1 c2) => put_any a A1 A2 c1 c2 W h.b h.txt)
  have CB := Lib.hid (fun W (h : EntV W b B1 B2 d1 d2) => put_any b B1 B2 d1 d2 W h.b h.txt)
  unfold PutPost at CA CB
  rw [show chkN a = 0 from by unfold chkN; rw [if_pos ha]] at CA
  rw [show chkN b = 50 from by unfold chkN; rw [if_neg hb]] at CB
  have HA := Lib.hid hA
  have HB := Lib.hid hB
  obtain ⟨n1, hn1⟩ : ∃ n, a.key.length = n := ⟨_, rfl⟩
  obtain ⟨n2, hn2⟩ : ∃ n, a.data.length = n := ⟨_, rfl⟩
  obtain ⟨m1, hm1⟩ : ∃ n, b.key.length = n := ⟨_, rfl⟩
  obtain ⟨m2, hm2⟩ : ∃ n, b.data.length = n := ⟨_, rfl⟩
  simp only [hn1, hn2] at C1 CA
  simp only [hm1, hm2] at C2 CB
  rw [hn1, hn2, hm1, hm2]
  have HN := Lib.hid (show _ ∧ _ ∧ _ ∧ _ from ⟨hn1, hn2, hm1, hm2⟩)
  have b0 := below2 w (.cells (evs a (.slice A1 n1 c1) (.slice A2 n2 c2)) 26) (.cells (evs b (.slice B1 m1 d1) (.slice B2 m2 d2)) 26)
  clear hA hB hn1 hn2 hm1 hm2
  go_enter Try.func8, Try.ntmps8
  go_wp2_with fail
  with_reducible refine (C1 _).out.mono ?_
  rintro x w1 ⟨rfl, hb1⟩
  have LA1 := Lib.hid (((Lies.made w 26 (evs a (.slice A1 n1 c1) (.slice A2 n2 c2))).alloc (.cells (evs b (.slice B1 m1 d1) (.slice B2 m2 d2)) 26)).below hb1 (by simp; omega))
  have LB1 := Lib.hid ((Lies.made2 w (.cells (evs a (.slice A1 n1 c1) (.slice A2 n2 c2)) 26) 26 (evs b (.slice B1 m1 d1) (.slice B2 m2 d2))).below hb1 (by simp))
  have BB1 := Lib.hid (b0.trans (hb1.mono b0.size))
  obtain ⟨f0, f1, f2, f3, f4, f5, f6, f7, f8, f9, f10⟩ := LB1.out.cellsE
  clear b0 hb1 C1
  go_wp2_with fail
  with_reducible refine (C2 _).out.mono ?_
  rintro x w2 ⟨rfl, hb2⟩
  clear f0 f1 f2 f3 f4 f5 f6 f7 f8 f9 f10
  have LA2 := Lib.hid (LA1.out.below hb2 LA1.out.lt)
  have LB2 := Lib.hid (LB1.out.below hb2 LB1.out.lt)
  have BB2 := Lib.hid (BB1.out.trans (hb2.mono BB1.out.size))
  have CAA := Lib.hid (CA.out w2 (HA.out.below BB2.out))
  obtain ⟨e0, e1, e2, e3, e4, e5, e6, e7, e8, e9, e10⟩ := LA2.out.cellsE
  clear hb2 C2 LA1 LB1 BB1 CA
  go_wp2_with fail
  with_reducible refine CAA.out.mono ?_
  rintro x w3 ⟨v3, rfl, hO3, hb3⟩
  clear e0 e1 e2 e3 e4 e5 e6 e7 e8 e9 e10
  have LA3 := Lib.hid (LA2.out.below hb3 LA2.out.lt)
  have LB3 := Lib.hid (LB2.out.below hb3 LB2.out.lt)
  have BB3 := Lib.hid (BB2.out.trans (hb3.mono BB2.out.size))
  have CBB := Lib.hid (CB.out w3 (HB.out.below BB3.out))
  obtain ⟨X3, x3, rfl, hX3, _, _, _⟩ := hO3.slice
  have HX3 := Lib.hid hX3
  obtain ⟨f0, f1, f2, f3, f4, f5, f6, f7, f8, f9, f10⟩ := LB3.out.cellsE
  clear hb3 LA2 LB2 BB2 CB CAA hO3 hX3
  go_wp2_with fail
  with_reducible refine CBB.out.mono ?_
  rintro x w4 ⟨v4, rfl, hO4, hb4⟩
  clear f0 f1 f2 f3 f4 f5 f6 f7 f8 f9 f10
  have LA4 := Lib.hid (LA3.out.below hb4 LA3.out.lt)
  have LB4 := Lib.hid (LB3.out.below hb4 LB3.out.lt)
  have BB4 := Lib.hid (BB3.out.trans (hb4.mono BB3.out.size))
  have HX4 := Lib.hid (HX3.out.below hb4)
  obtain ⟨Y4, y4, rfl, hY4, _, _, _⟩ := hO4.slice
  have HY4 := Lib.hid hY4
  clear hb4 LA3 LB3 BB3 CBB hO4 hY4 HX3
  go_wp2_with fail
  with_reducible refine (known_any _).mono ?_
  rintro x w5 ⟨rfl, hb5⟩
  go_wp2
  go_ret
  exact ⟨rfl, BB4.out.trans (hb5.mono BB4.out.size)⟩

set_option maxRecDepth 100000 in
set_option maxHeartbeats 4000000 in
theorem apart_ok (a b : Note) (A1 A2 B1 B2 : Option Addr) (c1 c2 d1 d2 : Nat) (w : World) (hA : EntV w a A1 A2 c1 c2) (hB : EntV w b B1 B2 d1 d2) (h1 : longE a = false) (h2 : longE b = false) (ha : Ent.ok a = true) (hb : Ent.ok b = true) :
    Calls Try.prog 8 #[.agg (evs a (.slice A1 a.key.length c1) (.slice A2 a.data.length c2)), .agg (evs b (.slice B1 b.key.length d1) (.slice B2 b.data.length d2))] w fun x w' => x = .returned (.bool true) ∧ Below w.heap.size w w' := by
  have C1 := fun W => Lib.hid (long_any a A1 A2 c1 c2 W)
  have C2 := fun W => Lib.hid (long_any b B1 B2 d1 d2 W)
  rw [h1] at C1
  rw [h2] at C2
  have CA := Lib.hid (fun W (h : EntV W a A1 A2 c1 c2) => put_any a A1 A2 c1 c2 W h.b h.txt)
  have CB := Lib.hid (fun W (h : EntV W b B1 B2 d1 d2) => put_any b B1 B2 d1 d2 W h.b h.txt)
  unfold PutPost at CA CB
  rw [show chkN a = 0 from by unfold chkN; rw [if_pos ha], show putB a = Ent.enc a from by unfold putB; rw [if_pos ha]] at CA
  rw [show chkN b = 0 from by unfold chkN; rw [if_pos hb], show putB b = Ent.enc b from by unfold putB; rw [if_pos hb]] at CB
  have HA := Lib.hid hA
  have HB := Lib.hid hB
  obtain ⟨n1, hn1⟩ : ∃ n, a.key.length = n := ⟨_, rfl⟩
  obtain ⟨n2, hn2⟩ : ∃ n, a.data.length = n := ⟨_, rfl⟩
  obtain ⟨m1, hm1⟩ : ∃ n, b.key.length = n := ⟨_, rfl⟩
  obtain ⟨m2, hm2⟩ : ∃ n, b.data.length = n := ⟨_, rfl⟩
  simp only [hn1, hn2] at C1 CA
  simp only [hm1, hm2] at C2 CB
  rw [hn1, hn2, hm1, hm2]
  have HN := Lib.hid (show _ ∧ _ ∧ _ ∧ _ from ⟨hn1, hn2, hm1, hm2⟩)
  have b0 := below2 w (.cells (evs a (.slice A1 n1 c1) (.slice A2 n2 c2)) 26) (.cells (evs b (.slice B1 m1 d1) (.slice B2 m2 d2)) 26)
  clear hA hB hn1 hn2 hm1 hm2
  go_enter Try.func8, Try.ntmps8
  go_wp2_with fail
  with_reducible refine (C1 _).out.mono ?_
  rintro x w1 ⟨rfl, hb1⟩
  have LA1 := Lib.hid (((Lies.made w 26 (evs a (.slice A1 n1 c1) (.slice A2 n2 c2))).alloc (.cells (evs b (.slice B1 m1 d1) (.slice B2 m2 d2)) 26)).below hb1 (by simp; omega))
  have LB1 := Lib.hid ((Lies.made2 w (.cells (evs a (.slice A1 n1 c1) (.slice A2 n2 c2)) 26) 26 (evs b (.slice B1 m1 d1) (.slice B2 m2 d2))).below hb1 (by simp))
  have BB1 := Lib.hid (b0.trans (hb1.mono b0.size))
  obtain ⟨f0, f1, f2, f3, f4, f5, f6, f7, f8, f9, f10⟩ := LB1.out.cellsE
  clear b0 hb1 C1
  go_wp2_with fail
  with_reducible refine (C2 _).out.mono ?_
  rintro x w2 ⟨rfl, hb2⟩
  clear f0 f1 f2 f3 f4 f5 f6 f7 f8 f9 f10
  have LA2 := Lib.hid (LA1.out.below hb2 LA1.out.lt)
  have LB2 := Lib.hid (LB1.out.below hb2 LB1.out.lt)
  have BB2 := Lib.hid (BB1.out.trans (hb2.mono BB1.out.size))
  have CAA := Lib.hid (CA.out w2 (HA.out.below BB2.out))
  obtain ⟨e0, e1, e2, e3, e4, e5, e6, e7, e8, e9, e10⟩ := LA2.out.cellsE
  clear hb2 C2 LA1 LB1 BB1 CA
  go_wp2_with fail
  with_reducible refine CAA.out.mono ?_
  rintro x w3 ⟨v3, rfl, hO3, hb3⟩
  clear e0 e1 e2 e3 e4 e5 e6 e7 e8 e9 e10
  have LA3 := Lib.hid (LA2.out.below hb3 LA2.out.lt)
  have LB3 := Lib.hid (LB2.out.below hb3 LB2.out.lt)
  have BB3 := Lib.hid (BB2.out.trans (hb3.mono BB2.out.size))
  have CBB := Lib.hid (CB.out w3 (HB.out.below BB3.out))
  obtain ⟨X3, x3, rfl, hX3, _, _, _⟩ := hO3.slice
  have HX3 := Lib.hid hX3
  obtain ⟨f0, f1, f2, f3, f4, f5, f6, f7, f8, f9, f10⟩ := LB3.out.cellsE
  clear hb3 LA2 LB2 BB2 CB CAA hO3 hX3
  go_wp2_with fail
  with_reducible refine CBB.out.mono ?_
  rintro x w4 ⟨v4, rfl, hO4, hb4⟩
  clear f0 f1 f2 f3 f4 f5 f6 f7 f8 f9 f10
  have LA4 := Lib.hid (LA3.out.below hb4 LA3.out.lt)
  have LB4 := Lib.hid (LB3.out.below hb4 LB3.out.lt)
  have BB4 := Lib.hid (BB3.out.trans (hb4.mono BB3.out.size))
  have HX4 := Lib.hid (HX3.out.below hb4)
  obtain ⟨Y4, y4, rfl, hY4, _, _, _⟩ := hO4.slice
  have HY4 := Lib.hid hY4
  clear hb4 LA3 LB3 BB3 CBB hO4 hY4 HX3
  have hsb : sameB (Ent.enc a) (Ent.enc b) = sameE a b := by
    by_cases h : a = b
    · subst h; rw [sameB_self, sameE_self]
    · rw [sameE_ne h, sameB_ne (fun h2 => h (Ent.enc_inj a b HA.out.b ha HB.out.b hb [] [] (by rw [h2])).1)]
  have c20 := same_any X3 Y4 _ _ x3 y4 _ _ w4.drew HX4.out.drew HY4.out.drew
  rw [hsb] at c20
  have c24 := same5_any a b A1 A2 B1 B2 c1 c2 d1 d2 w4.drew ((HA.out.below BB4.out).below (w' := w4.drew) ⟨rfl, rfl, rfl, Nat.le_refl _, fun _ _ => rfl⟩) ((HB.out.below BB4.out).below (w' := w4.drew) ⟨rfl, rfl, rfl, Nat.le_refl _, fun _ _ => rfl⟩)
  obtain ⟨hn1, hn2, hm1, hm2⟩ := HN.out
  rw [hn1, hn2, hm1, hm2] at c24
  generalize sameE a b = r at *
  generalize (Ent.enc a).length = la at *
  generalize (Ent.enc b).length = lb at *
  have D20 := Lib.hid c20
  have D24 := Lib.hid c24
  have CK := Lib.hid (fun W => known_any W)
  have LA5 := Lib.hid (fun W (hb : Below w4.drew.heap.size w4.drew W) => Lies.below (w := w4.drew) LA4.out hb (Lies.lt (w := w4.drew) LA4.out))
  have LB5 := Lib.hid (fun W (hb : Below w4.drew.heap.size w4.drew W) => Lies.below (w := w4.drew) LB4.out hb (Lies.lt (w := w4.drew) LB4.out))
  obtain ⟨e0, e1, e2, e3, e4, e5, e6, e7, e8, e9, e10⟩ := LA4.out.cellsE
  obtain ⟨f0, f1, f2, f3, f4, f5, f6, f7, f8, f9, f10⟩ := LB4.out.cellsE
  clear c20 c24 hsb hn1 hn2 hm1 hm2 HN HX4 HY4 ha hb h1 h2
  cases r
  all_goals
    go_wp2_with fail
    go_region_held3 (fun W => W.cell? ⟨w.heap.size, 0, none⟩ = some (.int .i64 a.kind) ∧ W.cell? ⟨w.heap.size, 1, none⟩ = some (.int .u32 (a.epoch : Nat)) ∧ W.cell? ⟨w.heap.size, 2, none⟩ = some (.int .u32 (a.old : Nat)) ∧ W.cell? ⟨w.heap.size, 3, none⟩ = some (.int .u64 (a.lsn : Nat)) ∧ W.cell? ⟨w.heap.size, 4, none⟩ = some (.int .u64 (a.tick : Nat)) ∧ W.cell? ⟨w.heap.size, 5, none⟩ = some (.int .u32 (a.order : Nat)) ∧ W.cell? ⟨w.heap.size, 6, none⟩ = some (.int .i64 a.step) ∧ W.cell? ⟨w.heap.size, 7, none⟩ = some (.bool a.undo) ∧ W.cell? ⟨w.heap.size, 8, none⟩ = some (.int .i64 a.code) ∧ W.cell? ⟨w.heap.size, 9, none⟩ = some (.slice A1 n1 c1) ∧ W.cell? ⟨w.heap.size, 10, none⟩ = some (.slice A2 n2 c2) ∧ W.cell? ⟨w.heap.size + 1, 0, none⟩ = some (.int .i64 b.kind) ∧ W.cell? ⟨w.heap.size + 1, 1, none⟩ = some (.int .u32 (b.epoch : Nat)) ∧ W.cell? ⟨w.heap.size + 1, 2, none⟩ = some (.int .u32 (b.old : Nat)) ∧ W.cell? ⟨w.heap.size + 1, 3, none⟩ = some (.int .u64 (b.lsn : Nat)) ∧ W.cell? ⟨w.heap.size + 1, 4, none⟩ = some (.int .u64 (b.tick : Nat)) ∧ W.cell? ⟨w.heap.size + 1, 5, none⟩ = some (.int .u32 (b.order : Nat)) ∧ W.cell? ⟨w.heap.size + 1, 6, none⟩ = some (.int .i64 b.step) ∧ W.cell? ⟨w.heap.size + 1, 7, none⟩ = some (.bool b.undo) ∧ W.cell? ⟨w.heap.size + 1, 8, none⟩ = some (.int .i64 b.code) ∧ W.cell? ⟨w.heap.size + 1, 9, none⟩ = some (.slice B1 m1 d1) ∧ W.cell? ⟨w.heap.size + 1, 10, none⟩ = some (.slice B2 m2 d2))
      (first | go_keep | exact ⟨(LA5.out _ BB7.out).cell 0, (LA5.out _ BB7.out).cell 1, (LA5.out _ BB7.out).cell 2, (LA5.out _ BB7.out).cell 3, (LA5.out _ BB7.out).cell 4, (LA5.out _ BB7.out).cell 5, (LA5.out _ BB7.out).cell 6, (LA5.out _ BB7.out).cell 7, (LA5.out _ BB7.out).cell 8, (LA5.out _ BB7.out).cell 9, (LA5.out _ BB7.out).cell 10, (LB5.out _ BB7.out).cell 0, (LB5.out _ BB7.out).cell 1, (LB5.out _ BB7.out).cell 2, (LB5.out _ BB7.out).cell 3, (LB5.out _ BB7.out).cell 4, (LB5.out _ BB7.out).cell 5, (LB5.out _ BB7.out).cell 6, (LB5.out _ BB7.out).cell 7, (LB5.out _ BB7.out).cell 8, (LB5.out _ BB7.out).cell 9, (LB5.out _ BB7.out).cell 10⟩ | exact ⟨(LA5.out _ BB6.out).cell 0, (LA5.out _ BB6.out).cell 1, (LA5.out _ BB6.out).cell 2, (LA5.out _ BB6.out).cell 3, (LA5.out _ BB6.out).cell 4, (LA5.out _ BB6.out).cell 5, (LA5.out _ BB6.out).cell 6, (LA5.out _ BB6.out).cell 7, (LA5.out _ BB6.out).cell 8, (LA5.out _ BB6.out).cell 9, (LA5.out _ BB6.out).cell 10, (LB5.out _ BB6.out).cell 0, (LB5.out _ BB6.out).cell 1, (LB5.out _ BB6.out).cell 2, (LB5.out _ BB6.out).cell 3, (LB5.out _ BB6.out).cell 4, (LB5.out _ BB6.out).cell 5, (LB5.out _ BB6.out).cell 6, (LB5.out _ BB6.out).cell 7, (LB5.out _ BB6.out).cell 8, (LB5.out _ BB6.out).cell 9, (LB5.out _ BB6.out).cell 10⟩)
      (first
      | (go_at_call 20; (with_reducible refine D20.out.mono ?_); rintro x w5 ⟨rfl, rfl⟩)
      | (go_at_call 24; (with_reducible refine D24.out.mono ?_); rintro x w6 ⟨rfl, hb6⟩; have BB6 := Lib.hid hb6; clear hb6)
      | (go_at_call 11; (with_reducible refine (CK.out _).mono ?_); rintro x w7 ⟨rfl, hb7⟩; have BB7 := Lib.hid (BB6.out.trans (hb7.mono BB6.out.size)); clear hb7))
    go_wp2
    go_ret
    exact ⟨rfl, BB4.out.drew.trans (BB7.out.mono BB4.out.size)⟩

theorem noteApart_walk (a : Note) (A1 A2 : Option Addr) (c1 c2 : Nat) (b : Note) (B1 B2 : Option Addr) (d1 d2 : Nat) (w : World) (hA : EntV w a A1 A2 c1 c2) (hB : EntV w b B1 B2 d1 d2) :
    Calls Try.prog 8 #[.agg (evs a (.slice A1 a.key.length c1) (.slice A2 a.data.length c2)), .agg (evs b (.slice B1 b.key.length d1) (.slice B2 b.data.length d2))] w fun x w' => x = .returned (.bool true) ∧ Below w.heap.size w w' := by
  cases h1 : longE a
  · cases h2 : longE b
    · by_cases ha : Ent.ok a = true
      · by_cases hb : Ent.ok b = true
        · exact apart_ok a b A1 A2 B1 B2 c1 c2 d1 d2 w hA hB h1 h2 ha hb
        · exact apart_ko2 a b A1 A2 B1 B2 c1 c2 d1 d2 w hA hB h1 h2 ha hb
      · exact apart_ko1 a b A1 A2 B1 B2 c1 c2 d1 d2 w hA hB h1 h2 ha
    · exact apart_long2 a b A1 A2 B1 B2 c1 c2 d1 d2 w hA hB h1 h2
  · exact apart_long1 a b A1 A2 B1 B2 c1 c2 d1 d2 w hA hB h1

end Go.Proofs.Ytjjkjppaiejajaa
