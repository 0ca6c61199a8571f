/-
  The walk of NoteBack, out of the contracts.
-/
import Derived.Test.YtjjkjppaiejajaaLongFn
import Derived.Test.YtjjkjppaiejajaaSame5
import Derived.Test.YtjjkjppaiejajaaNIn
namespace Go.Proofs.Ytjjkjppaiejajaa
open Go.RowKit

theorem get_case (l : List Nat) : (∃ e, Ent.get one l = some e) ∨ Ent.get one l = none := by
  cases h : Ent.get one l with
  | some e => exact .inl ⟨e, rfl⟩
  | none => exact .inr rfl

set_option maxRecDepth 100000 in
set_option maxHeartbeats 400000 in
theorem back_long1 (e : Note) (A1 A2 : Option Addr) (c1 c2 : Nat) (z : Int) (a : Option Addr) (n cap : Nat) (w : World) (h : longE e = true) :
    Calls Try.prog 5 #[.agg (evs e (.slice A1 e.key.length c1) (.slice A2 e.data.length c2)), .int .u8 z, .slice a n cap] w fun x w' => x = .returned (.bool true) ∧ Below w.heap.size w w' := by
  have C1 := fun W => Lib.hid (long_any e A1 A2 c1 c2 W)
  rw [h] at C1
  generalize Value.slice A1 e.key.length c1 = K at *
  generalize Value.slice A2 e.data.length c2 = D at *
  go_enter Try.func5, Try.ntmps5
  go_wp2_with fail
  with_reducible refine (C1 _).out.mono ?_
  rintro x w1 ⟨rfl, hb1⟩
  go_wp2_with fail
  with_reducible refine (known_any _).mono ?_
  rintro x w2 ⟨rfl, hb2⟩
  go_wp2
  go_ret
  have b1 : Below w.heap.size w w1 := ((Below.refl _ _).alloc (Nat.le_refl _) _).trans (hb1.mono (by simp))
  exact ⟨rfl, b1.trans (hb2.mono b1.size)⟩

set_option maxRecDepth 100000 in
set_option maxHeartbeats 400000 in
theorem back_long2 (e : Note) (A1 A2 : Option Addr) (c1 c2 : Nat) (z : Int) (a : Option Addr) (n cap : Nat) (w : World) (h : longE e = false) (hn : 2000 < n) (hm : n ≤ maxLen) :
    Calls Try.prog 5 #[.agg (evs e (.slice A1 e.key.length c1) (.slice A2 e.data.length c2)), .int .u8 z, .slice a n cap] w fun x w' => x = .returned (.bool true) ∧ Below w.heap.size w w' := by
  unfold maxLen at hm
  have C1 := fun W => Lib.hid (long_any e A1 A2 c1 c2 W)
  rw [h] at C1
  generalize Value.slice A1 e.key.length c1 = K at *
  generalize Value.slice A2 e.data.length c2 = D at *
  go_enter Try.func5, Try.ntmps5
  go_wp2_with fail
  with_reducible refine (C1 _).out.mono ?_
  rintro x w1 ⟨rfl, hb1⟩
  go_wp2_with fail
  with_reducible refine (known_any _).mono ?_
  rintro x w2 ⟨rfl, hb2⟩
  go_wp2
  go_ret
  have b1 : Below w.heap.size w w1 := ((Below.refl _ _).alloc (Nat.le_refl _) _).trans (hb1.mono (by simp))
  exact ⟨rfl, b1.trans (hb2.mono b1.size)⟩

set_option maxRecDepth 100000 in
set_option maxHeartbeats 4000000 in
theorem back_bad (e : Note) (A1 A2 : Option Addr) (c1 c2 : Nat) (z : Int) (a : Option Addr) (n cap : Nat) (l : List Nat) (w : World) (hV : EntV w e A1 A2 c1 c2) (hI : InBytes w a n cap l) (hlong : longE e = false) (hn : n ≤ 2000) (hok : ¬ Ent.ok e = true) :
    Calls Try.prog 5 #[.agg (evs e (.slice A1 e.key.length c1) (.slice A2 e.data.length c2)), .int .u8 z, .slice a n cap] w fun x w' => x = .returned (.bool true) ∧ Below w.heap.size w w' := by
  have hkl : e.key.length ≤ 1000 ∧ e.data.length ≤ 1000 := by unfold longE at hlong; simp at hlong; omega
  obtain ⟨hB, hnc, hcm, hA⟩ := hI
  have HSM := Lib.hid hB.2.1
  have HLEN := Lib.hid hB.1
  have HB := Lib.hid hB
  have HV := Lib.hid hV
  have C1 := fun W => Lib.hid (long_any e A1 A2 c1 c2 W)
  rw [hlong] at C1
  have CP := Lib.hid (fun W (h : EntV W e A1 A2 c1 c2) => put_any e A1 A2 c1 c2 W h.b h.txt)
  have CC := Lib.hid (fun W => check_any e A1 A2 c1 c2 W)
  have CS := Lib.hid (fun B1 B2 d1 d2 W (h : EntV W e B1 B2 d1 d2) (h' : EntV W e A1 A2 c1 c2) => same5_any e e B1 B2 A1 A2 d1 d2 c1 c2 W h h')
  unfold PutPost at CP
  unfold ChkPost at CC
  rw [sameE_self] at CS
  obtain ⟨n1, hn1⟩ : ∃ n, e.key.length = n := ⟨_, rfl⟩
  obtain ⟨n2, hn2⟩ : ∃ n, e.data.length = n := ⟨_, rfl⟩
  simp only [hn1, hn2] at C1 CP CC CS
  rw [hn1, hn2]
  have b0 := (Below.refl w.heap.size w).alloc (Nat.le_refl _) (.cells (evs e (.slice A1 n1 c1) (.slice A2 n2 c2)) 26)
  have HN1 := Lib.hid hn1
  have HN2 := Lib.hid hn2
  clear hB hV hn1 hn2 hkl
  rw [show chkN e = 50 from by unfold chkN; rw [if_neg hok]] at CP CC
  rw [show putB e = [] from by unfold putB; rw [if_neg hok]] at CP
  go_enter Try.func5, Try.ntmps5
  go_wp2_with fail
  with_reducible refine (C1 _).out.mono ?_
  rintro x w1 ⟨rfl, hb1⟩
  have L1 := (Lies.made w 26 (evs e (.slice A1 n1 c1) (.slice A2 n2 c2))).below hb1 (by simp)
  have b1 := b0.trans (hb1.mono b0.size)
  have HV1 := HV.out.below b1
  have cp := CP.out w1 HV1
  have BB1 := Lib.hid b1
  have HL1 := Lib.hid L1
  obtain ⟨e0, e1, e2, e3, e4, e5, e6, e7, e8, e9, e10⟩ := L1.cellsE
  have CPP := Lib.hid cp
  clear cp L1 b1 HV1 hb1 b0 C1
  go_wp2_with fail
  with_reducible refine CPP.out.mono ?_
  rintro x w2 ⟨v2, rfl, hO2, hb2⟩
  obtain ⟨A7, c7, rfl, hB7, hc7l, hc7m, hA7⟩ := hO2.slice
  have b2 := BB1.out.trans (hb2.mono BB1.out.size)
  have L2 := HL1.out.below hb2 HL1.out.lt
  clear e0 e1 e2 e3 e4 e5 e6 e7 e8 e9 e10
  obtain ⟨e0, e1, e2, e3, e4, e5, e6, e7, e8, e9, e10⟩ := L2.cellsE
  have HB7 := Lib.hid hB7
  have HA7 := Lib.hid hA7
  have BB2 := Lib.hid b2
  have HL2 := Lib.hid L2
  clear hO2 hB7 hA7 b2 L2 hb2 HL1 BB1 CPP CP
  rw [show ([] : List Nat).length = 0 from rfl]
  go_wp2_with fail
  with_reducible refine (CC.out _).mono ?_
  rintro x w3 ⟨rfl, hb3⟩
  have BB3 := Lib.hid (BB2.out.trans (hb3.mono BB2.out.size))
  have HB3 := Lib.hid (HB.out.below BB3.out)
  clear e0 e1 e2 e3 e4 e5 e6 e7 e8 e9 e10 CC CS HB7 HA7
  have CG := Lib.hid (get_any a n cap l w3 HB3.out (by omega))
  rcases get_case l with ⟨ex, hex⟩ | hex
  · have hsome := Ent.get_some HSM.out hex
    have HSO := Lib.hid hsome
    have HEX := Lib.hid hex
    clear hsome hex
    go_wp2_with fail
    with_reducible refine CG.out.mono ?_
    intro x wa hpa
    obtain ⟨K, D, rfl, hK, hD, _, hba⟩ := hpa.of_some HEX.out
    obtain ⟨B1, B2, d1, d2, rfl, rfl, hVx⟩ := EntV.own hK hD HSO.out.2.2
    clear hpa hK hD
    have BBa := Lib.hid (BB3.out.trans (hba.mono BB3.out.size))
    have HBa := Lib.hid (HB3.out.below hba)
    obtain ⟨m1, hm1⟩ : ∃ n, ex.key.length = n := ⟨_, rfl⟩
    obtain ⟨m2, hm2⟩ : ∃ n, ex.data.length = n := ⟨_, rfl⟩
    have hLx := Lies.made wa 26 (evs ex (.slice B1 ex.key.length d1) (.slice B2 ex.data.length d2))
    have hbx : Below wa.heap.size wa (wa.alloc (.cells (evs ex (.slice B1 ex.key.length d1) (.slice B2 ex.data.length d2)) 26)) := (Below.refl _ _).alloc (Nat.le_refl _) _
    have cp := put_any ex B1 B2 d1 d2 _ hVx.b (hVx.below hbx).txt
    have cc := fun W => check_any ex B1 B2 d1 d2 W
    unfold PutPost at cp
    unfold ChkPost at cc
    rw [show chkN ex = 0 from by unfold chkN; rw [if_pos HSO.out.1]] at cp cc
    rw [show putB ex = l from by unfold putB; rw [if_pos HSO.out.1, HSO.out.2.1]] at cp
    rw [hm1, hm2] at cp
    simp only [hm1, hm2] at cc
    rw [hm1, hm2] at hLx hbx
    rw [hm1, hm2]
    have CP := Lib.hid cp
    have CC := Lib.hid cc
    have HLX := Lib.hid hLx
    have HBX := Lib.hid hbx
    clear cp cc hLx hbx hVx hm1 hm2 hba CG
    go_wp2_with fail
    with_reducible refine CP.out.mono ?_
    rintro x wb ⟨v, rfl, hOb, hbb⟩
    obtain ⟨A8, c8, rfl, hB8, _, _, _⟩ := hOb.slice
    have bbb := (BBa.out.alloc BBa.out.size _).trans (hbb.mono (Nat.le_trans BBa.out.size (by simp)))
    have hLb := HLX.out.below hbb HLX.out.lt
    have HBb := (HBa.out.below HBX.out).below hbb
    rw [HLEN.out] at hB8 ⊢
    have cs := same_any A8 a n n c8 cap l l wb hB8 HBb
    rw [sameB_self] at cs
    have CS := Lib.hid cs
    obtain ⟨e0, e1, e2, e3, e4, e5, e6, e7, e8, e9, e10⟩ := hLb.cellsE
    have BBb := Lib.hid bbb
    clear cs hB8 HBb hOb hLb bbb
    go_wp2_with fail
    with_reducible refine CS.out.mono ?_
    rintro x wc ⟨rfl, rfl⟩
    go_wp2_with fail
    with_reducible refine (CC.out _).mono ?_
    rintro x wd ⟨rfl, hbd⟩
    clear e0 e1 e2 e3 e4 e5 e6 e7 e8 e9 e10
    go_wp2_with fail
    with_reducible refine (known_any _).mono ?_
    rintro x wk ⟨rfl, hbk⟩
    go_wp2
    go_ret
    exact ⟨rfl, BBb.out.trans ((hbd.trans (hbk.mono hbd.size)).mono BBb.out.size)⟩
  · have HEX := Lib.hid hex
    clear hex
    go_wp2_with fail
    with_reducible refine CG.out.mono ?_
    intro x wa hpa
    obtain ⟨rfl, hba⟩ := hpa.of_none HEX.out
    clear hpa
    have BBa := Lib.hid (BB3.out.trans (hba.mono BB3.out.size))
    rw [show evs Ent.zero nilV nilV = #[.int .i64 0, .int .u32 0, .int .u32 0, .int .u64 0, .int .u64 0, .int .u32 0, .int .i64 0, .bool false, .int .i64 0, .slice none 0 0, .slice none 0 0] from rfl]
    go_wp2_with fail
    with_reducible refine (known_any _).mono ?_
    rintro x wk ⟨rfl, hbk⟩
    go_wp2
    go_ret
    have bx := BBa.out.alloc BBa.out.size (.cells #[.int .i64 0, .int .u32 0, .int .u32 0, .int .u64 0, .int .u64 0, .int .u32 0, .int .i64 0, .bool false, .int .i64 0, .slice none 0 0, .slice none 0 0] 26)
    exact ⟨rfl, bx.trans (hbk.mono bx.size)⟩

set_option maxRecDepth 100000 in
set_option maxHeartbeats 8000000 in
theorem back_good (e : Note) (A1 A2 : Option Addr) (c1 c2 : Nat) (y : Nat) (hy : y < 256) (a : Option Addr) (n cap : Nat) (l : List Nat) (w : World) (hV : EntV w e A1 A2 c1 c2) (hI : InBytes w a n cap l) (hlong : longE e = false) (hn : n ≤ 2000) (hok : Ent.ok e = true) :
    Calls Try.prog 5 #[.agg (evs e (.slice A1 e.key.length c1) (.slice A2 e.data.length c2)), .int .u8 (y : Nat), .slice a n cap] w fun x w' => x = .returned (.bool true) ∧ Below w.heap.size w w' := by
  have hbnd := hV.b
  have hel := Ent.enc_len e ((Ent.ok_iff e).1 hok)
  have hep := Ent.enc_len_pos e
  have hes := Ent.enc_small e hbnd
  have hg1 := Ent.get_enc one rfl rfl e hbnd hok
  have hg2 : Ent.get one (Ent.enc e ++ [y]) = none := Ent.get_more one e hbnd hok [y] (by simp) (fun c hc => by rcases List.mem_append.1 hc with h | h; exact hes c h; simp at h; omega)
  have hg3 : Ent.get one ((Ent.enc e).take ((Ent.enc e).length - 1)) = none := Ent.get_less one e hbnd hok _ ((Ent.enc e).drop ((Ent.enc e).length - 1)) (by intro h; have := congrArg List.length h; simp at this; omega) (List.take_append_drop _ _).symm (fun c hc => hes c (List.mem_of_mem_take hc))
  have HBND := Lib.hid hbnd
  have hkl : e.key.length ≤ 1000 ∧ e.data.length ≤ 1000 := by unfold longE at hlong; simp at hlong; omega
  obtain ⟨hB, hnc, hcm, hA⟩ := hI
  have HSM := Lib.hid hB.2.1
  have HLEN := Lib.hid hB.1
  have HB := Lib.hid hB
  have HV := Lib.hid hV
  have C1 := fun W => Lib.hid (long_any e A1 A2 c1 c2 W)
  rw [hlong] at C1
  have CP := Lib.hid (fun W (h : EntV W e A1 A2 c1 c2) => put_any e A1 A2 c1 c2 W h.b h.txt)
  have CC := Lib.hid (fun W => check_any e A1 A2 c1 c2 W)
  have CS := Lib.hid (fun B1 B2 d1 d2 W (h : EntV W e B1 B2 d1 d2) (h' : EntV W e A1 A2 c1 c2) => same5_any e e B1 B2 A1 A2 d1 d2 c1 c2 W h h')
  unfold PutPost at CP
  unfold ChkPost at CC
  rw [sameE_self] at CS
  obtain ⟨n1, hn1⟩ : ∃ n, e.key.length = n := ⟨_, rfl⟩
  obtain ⟨n2, hn2⟩ : ∃ n, e.data.length = n := ⟨_, rfl⟩
  simp only [hn1, hn2] at C1 CP CC CS
  rw [hn1, hn2]
  have b0 := (Below.refl w.heap.size w).alloc (Nat.le_refl _) (.cells (evs e (.slice A1 n1 c1) (.slice A2 n2 c2)) 26)
  have HN1 := Lib.hid hn1
  have HN2 := Lib.hid hn2
  clear hB hV hn1 hn2 hkl
  rw [show chkN e = 0 from by unfold chkN; rw [if_pos hok]] at CP CC
  rw [show putB e = Ent.enc e from by unfold putB; rw [if_pos hok]] at CP
  generalize Ent.enc e = le at *
  obtain ⟨q, hq⟩ : ∃ q, le.length = q + 1 := ⟨le.length - 1, by omega⟩
  rw [hq] at hel hep hg3
  rw [show q + 1 - 1 = q from rfl] at hg3
  have HG1 := Lib.hid hg1
  have HG2 := Lib.hid hg2
  have HG3 := Lib.hid hg3
  have HQ := Lib.hid hq
  clear hg1 hg2 hg3 hq hbnd hes
  go_enter Try.func5, Try.ntmps5
  go_wp2_with fail
  with_reducible refine (C1 _).out.mono ?_
  rintro x w1 ⟨rfl, hb1⟩
  have L1 := (Lies.made w 26 (evs e (.slice A1 n1 c1) (.slice A2 n2 c2))).below hb1 (by simp)
  have b1 := b0.trans (hb1.mono b0.size)
  have HV1 := HV.out.below b1
  have cp := CP.out w1 HV1
  have BB1 := Lib.hid b1
  have HL1 := Lib.hid L1
  obtain ⟨e0, e1, e2, e3, e4, e5, e6, e7, e8, e9, e10⟩ := L1.cellsE
  have CPP := Lib.hid cp
  clear cp L1 b1 HV1 hb1 b0 C1
  go_wp2_with fail
  with_reducible refine CPP.out.mono ?_
  rintro x w2 ⟨v2, rfl, hO2, hb2⟩
  obtain ⟨A7, c7, rfl, hB7, hc7l, hc7m, hA7⟩ := hO2.slice
  have b2 := BB1.out.trans (hb2.mono BB1.out.size)
  have L2 := HL1.out.below hb2 HL1.out.lt
  clear e0 e1 e2 e3 e4 e5 e6 e7 e8 e9 e10
  obtain ⟨e0, e1, e2, e3, e4, e5, e6, e7, e8, e9, e10⟩ := L2.cellsE
  have HB7 := Lib.hid hB7
  have HA7 := Lib.hid hA7
  have BB2 := Lib.hid b2
  have HL2 := Lib.hid L2
  clear hO2 hB7 hA7 b2 L2 hb2 HL1 BB1 CPP CP
  rw [HQ.out] at HB7 hc7l ⊢
  obtain ⟨b7, o7, hA7s, _⟩ := HB7.out.2.2 (by omega)
  subst hA7s
  go_wp2_with fail
  with_reducible refine (CC.out _).mono ?_
  rintro x w3 ⟨rfl, hb3⟩
  have BB3 := Lib.hid (BB2.out.trans (hb3.mono BB2.out.size))
  have HL3 := Lib.hid (HL2.out.below hb3 HL2.out.lt)
  have HB73 := Lib.hid (HB7.out.below hb3)
  clear e0 e1 e2 e3 e4 e5 e6 e7 e8 e9 e10 CC HB7 HL2 BB2 hb3
  have CG1 := Lib.hid (get_any (some ⟨b7, o7, none⟩) (q + 1) c7 le w3 HB73.out (by omega))
  go_wp2_with fail
  with_reducible refine CG1.out.mono ?_
  intro x w4 hp4
  obtain ⟨K4, D4, rfl, hK4, hD4, _, hb4⟩ := hp4.of_some HG1.out
  obtain ⟨B1, B2, d1, d2, rfl, rfl, hV4⟩ := EntV.own hK4 hD4 HBND.out
  rw [HN1.out, HN2.out]
  have hbx : Below w4.heap.size w4 (w4.alloc (.cells (evs e (.slice B1 n1 d1) (.slice B2 n2 d2)) 26)) := (Below.refl _ _).alloc (Nat.le_refl _) _
  have HX5 := Lib.hid (Lies.made w4 26 (evs e (.slice B1 n1 d1) (.slice B2 n2 d2)))
  have HV5 := Lib.hid (hV4.below hbx)
  have BB5 := Lib.hid ((BB3.out.trans (hb4.mono BB3.out.size)).trans (hbx.mono (Nat.le_trans BB3.out.size hb4.size)))
  have HL5 := Lib.hid ((HL3.out.below hb4 HL3.out.lt).alloc (.cells (evs e (.slice B1 n1 d1) (.slice B2 n2 d2)) 26))
  have HB75 := Lib.hid ((HB73.out.below hb4).below hbx)
  have CCP := Lib.hid (copy_any (some ⟨b7, o7, none⟩) (q + 1) c7 le _ HB75.out (by intro h; cases h) (by omega))
  clear hp4 hK4 hD4 hV4 hb4 hbx CG1 HB73 HL3 BB3 HA7
  go_wp2_with fail
  with_reducible refine CCP.out.mono ?_
  rintro x w6 ⟨v6, rfl, hO6, hb6⟩
  have HO6 := Lib.hid hO6
  have BB6 := Lib.hid (BB5.out.trans (hb6.mono BB5.out.size))
  have HL6 := Lib.hid (HL5.out.below hb6 HL5.out.lt)
  have HX6 := Lib.hid (HX5.out.below hb6 HX5.out.lt)
  have HB76 := Lib.hid (HB75.out.below hb6)
  have HV6 := Lib.hid (HV5.out.below hb6)
  have HBW6 := Lib.hid hb6
  have hs6 := hb6.size
  have hs5 := BB5.out.size
  clear hO6 hb6 CCP HX5 HL5
  have hlen2 : (le ++ [y]).length = q + 2 := by rw [List.length_append, HQ.out]; rfl
  have HLEN2 := Lib.hid hlen2
  clear hlen2
  have hlt6 : le.length + 1 ≤ 1000000 := by rw [HQ.out]; omega
  have HLT6 := Lib.hid hlt6
  clear hlt6
  go_wp2_with (first
    | ((with_reducible refine wpl_append (some 58) _ _ _ (.tmp 55) (.tmp 57) (w4.alloc (.cells (evs e (.slice B1 n1 d1) (.slice B2 n2 d2)) 26)).heap.size v6 le (some ⟨w6.heap.size, 0, none⟩) 1 1 [y] ?hs ?hx (HO6.out.alloc _) (Bys.const w6 _ [y] (0, 0) 1 rfl rfl ?hb) ?ha HLT6.out ?hz ?_); (case hs => rfl); (case hx => rfl); (case hb => (simp; omega)); (case ha => (intro h; cases h)); (case hz => exact Nat.le_trans hs6 (by simp)); (intro v7 w7 ho7 hg7 hv7); (obtain ⟨A9, c9, hv9, hB9, _, _, _⟩ := ho7.slice); (rw [HLEN2.out] at hv9 hB9); (subst hv9); (have HO7 := Lib.hid ho7); (have HB9 := Lib.hid hB9); (have HG7 := Lib.hid hg7); (clear ho7 hB9 hg7 hv7)))
  have hbl : Below (w4.alloc (.cells (evs e (.slice B1 n1 d1) (.slice B2 n2 d2)) 26)).heap.size (w4.alloc (.cells (evs e (.slice B1 n1 d1) (.slice B2 n2 d2)) 26)) (w4.alloc (.cells (evs e (.slice B1 n1 d1) (.slice B2 n2 d2)) 26)) := Below.refl _ _
  have hb67 : Below w6.heap.size w6 w7 ∨ True := .inr trivial
  have hlk : ∀ g t cs, Lies w6 g t cs → t ≠ 5 → Lies w7 g t cs := fun g t cs h ht => (h.alloc _).grown HG7.out ((HO6.out.alloc (.cells #[.int .u8 (y : Nat)] 5)).ne (h.alloc _) ht)
  have BB7 := Lib.hid ((HO6.out.alloc (.cells #[.int .u8 (y : Nat)] 5)).grows HG7.out (BB6.out.alloc BB6.out.size _) hs5 (Nat.le_trans BB6.out.size (by simp)))
  have HL7 := Lib.hid (hlk _ _ _ HL6.out (by decide))
  have HX7 := Lib.hid (hlk _ _ _ HX6.out (by decide))
  have hbk : Below (w4.alloc (.cells (evs e (.slice B1 n1 d1) (.slice B2 n2 d2)) 26)).heap.size (w4.alloc (.cells (evs e (.slice B1 n1 d1) (.slice B2 n2 d2)) 26)) w7 := (HO6.out.alloc (.cells #[.int .u8 (y : Nat)] 5)).grows HG7.out (HBW6.out.alloc hs6 _) (Nat.le_refl _) (Nat.le_trans hs6 (by simp))
  have HB77 := Lib.hid (HB75.out.below hbk)
  have HV7 := Lib.hid (HV5.out.below hbk)
  clear hlk hb67 hbl hbk
  have CG2 := Lib.hid (get_any A9 (q + 2) c9 (le ++ [y]) w7 HB9.out (by omega))
  clear HO6 HO7 HG7 HL6 HX6
  go_wp2_with fail
  with_reducible refine CG2.out.mono ?_
  intro x w8 hp8
  obtain ⟨rfl, hb8⟩ := hp8.of_none HG2.out
  have hx8 : Below w8.heap.size w8 (w8.alloc (.cells #[.int .i64 0, .int .u32 0, .int .u32 0, .int .u64 0, .int .u64 0, .int .u32 0, .int .i64 0, .bool false, .int .i64 0, .slice none 0 0, .slice none 0 0] 26)) := (Below.refl _ _).alloc (Nat.le_refl _) _
  have BB8 := Lib.hid ((BB7.out.trans (hb8.mono BB7.out.size)).trans (hx8.mono (Nat.le_trans BB7.out.size hb8.size)))
  have HL8 := Lib.hid ((HL7.out.below hb8 HL7.out.lt).below hx8 (Lies.lt (HL7.out.below hb8 HL7.out.lt)))
  have HX8 := Lib.hid ((HX7.out.below hb8 HX7.out.lt).below hx8 (Lies.lt (HX7.out.below hb8 HX7.out.lt)))
  have HB78 := Lib.hid (((HB77.out.below hb8).below hx8).front q (by omega))
  have HV8 := Lib.hid ((HV7.out.below hb8).below hx8)
  have CG3 := Lib.hid (get_any (some ⟨b7, o7, none⟩) q c7 (le.take q) _ HB78.out (by omega))
  rw [show evs Ent.zero nilV nilV = #[.int .i64 0, .int .u32 0, .int .u32 0, .int .u64 0, .int .u64 0, .int .u32 0, .int .i64 0, .bool false, .int .i64 0, .slice none 0 0, .slice none 0 0] from rfl]
  clear hp8 hb8 hx8 CG2 HL7 HX7 HB77 HV7
  go_wp2_with fail
  with_reducible refine CG3.out.mono ?_
  intro x w9 hp9
  obtain ⟨rfl, hb9⟩ := hp9.of_none HG3.out
  rw [show evs Ent.zero nilV nilV = #[.int .i64 0, .int .u32 0, .int .u32 0, .int .u64 0, .int .u64 0, .int .u32 0, .int .i64 0, .bool false, .int .i64 0, .slice none 0 0, .slice none 0 0] from rfl]
  have hx9 : Below w9.heap.size w9 (w9.alloc (.cells #[.int .i64 0, .int .u32 0, .int .u32 0, .int .u64 0, .int .u64 0, .int .u32 0, .int .i64 0, .bool false, .int .i64 0, .slice none 0 0, .slice none 0 0] 26)) := (Below.refl _ _).alloc (Nat.le_refl _) _
  have BB9 := Lib.hid ((BB8.out.trans (hb9.mono BB8.out.size)).trans (hx9.mono (Nat.le_trans BB8.out.size hb9.size)))
  have HL9 := (HL8.out.below hb9 HL8.out.lt)
  have HX9 := (HX8.out.below hb9 HX8.out.lt)
  have HV9 := Lib.hid ((HV8.out.below hb9).below hx9)
  have HVE9 := Lib.hid (HV.out.below BB9.out)
  have hlt1 := HL9.lt
  have hlt2 := HX9.lt
  have hne1 : w.heap.size ≠ w9.heap.size := by omega
  have hne2 : w4.heap.size ≠ w9.heap.size := by omega
  obtain ⟨e0, e1, e2, e3, e4, e5, e6, e7, e8, e9, e10⟩ := HL9.cellsE
  obtain ⟨f0, f1, f2, f3, f4, f5, f6, f7, f8, f9, f10⟩ := HX9.cellsE
  have HB9a := Lib.hid (HB.out.below BB9.out)
  have CSS := Lib.hid (CS.out B1 B2 d1 d2 _ HV9.out HVE9.out)
  clear hp9 hb9 hx9 CG3 HL9 HX9 HL8 HX8 HV8 HV9 HVE9 CS
  go_wp2_with fail
  with_reducible refine CSS.out.mono ?_
  rintro x w10 ⟨rfl, hb10⟩
  clear e0 e1 e2 e3 e4 e5 e6 e7 e8 e9 e10 f0 f1 f2 f3 f4 f5 f6 f7 f8 f9 f10
  have BB10 := Lib.hid (BB9.out.trans (hb10.mono BB9.out.size))
  have HB10 := Lib.hid (HB9a.out.below hb10)
  clear hb10 CSS HB78 HG1 HG2 HG3
  have CG := Lib.hid (get_any a n cap l w10 HB10.out (by omega))
  rcases get_case l with ⟨ex, hex⟩ | hex
  · have hsome := Ent.get_some HSM.out hex
    have HSO := Lib.hid hsome
    have HEX := Lib.hid hex
    clear hsome hex
    go_wp2_with fail
    with_reducible refine CG.out.mono ?_
    intro x wa hpa
    obtain ⟨K, D, rfl, hK, hD, _, hba⟩ := hpa.of_some HEX.out
    obtain ⟨B1, B2, d1, d2, rfl, rfl, hVx⟩ := EntV.own hK hD HSO.out.2.2
    clear hpa hK hD
    have BBa := Lib.hid (BB10.out.trans (hba.mono BB10.out.size))
    have HBa := Lib.hid (HB10.out.below hba)
    obtain ⟨m1, hm1⟩ : ∃ n, ex.key.length = n := ⟨_, rfl⟩
    obtain ⟨m2, hm2⟩ : ∃ n, ex.data.length = n := ⟨_, rfl⟩
    have hLx := Lies.made wa 26 (evs ex (.slice B1 ex.key.length d1) (.slice B2 ex.data.length d2))
    have hbx : Below wa.heap.size wa (wa.alloc (.cells (evs ex (.slice B1 ex.key.length d1) (.slice B2 ex.data.length d2)) 26)) := (Below.refl _ _).alloc (Nat.le_refl _) _
    have cp := put_any ex B1 B2 d1 d2 _ hVx.b (hVx.below hbx).txt
    have cc := fun W => check_any ex B1 B2 d1 d2 W
    unfold PutPost at cp
    unfold ChkPost at cc
    rw [show chkN ex = 0 from by unfold chkN; rw [if_pos HSO.out.1]] at cp cc
    rw [show putB ex = l from by unfold putB; rw [if_pos HSO.out.1, HSO.out.2.1]] at cp
    rw [hm1, hm2] at cp
    simp only [hm1, hm2] at cc
    rw [hm1, hm2] at hLx hbx
    rw [hm1, hm2]
    have CP := Lib.hid cp
    have CC := Lib.hid cc
    have HLX := Lib.hid hLx
    have HBX := Lib.hid hbx
    clear cp cc hLx hbx hVx hm1 hm2 hba CG
    go_wp2_with fail
    with_reducible refine CP.out.mono ?_
    rintro x wb ⟨v, rfl, hOb, hbb⟩
    obtain ⟨A8, c8, rfl, hB8, _, _, _⟩ := hOb.slice
    have bbb := (BBa.out.alloc BBa.out.size _).trans (hbb.mono (Nat.le_trans BBa.out.size (by simp)))
    have hLb := HLX.out.below hbb HLX.out.lt
    have HBb := (HBa.out.below HBX.out).below hbb
    rw [HLEN.out] at hB8 ⊢
    have cs := same_any A8 a n n c8 cap l l wb hB8 HBb
    rw [sameB_self] at cs
    have CS := Lib.hid cs
    obtain ⟨e0, e1, e2, e3, e4, e5, e6, e7, e8, e9, e10⟩ := hLb.cellsE
    have BBb := Lib.hid bbb
    clear cs hB8 HBb hOb hLb bbb
    go_wp2_with fail
    with_reducible refine CS.out.mono ?_
    rintro x wc ⟨rfl, rfl⟩
    go_wp2_with fail
    with_reducible refine (CC.out _).mono ?_
    rintro x wd ⟨rfl, hbd⟩
    clear e0 e1 e2 e3 e4 e5 e6 e7 e8 e9 e10
    go_wp2_with fail
    with_reducible refine (known_any _).mono ?_
    rintro x wk ⟨rfl, hbk⟩
    go_wp2
    go_ret
    exact ⟨rfl, BBb.out.trans ((hbd.trans (hbk.mono hbd.size)).mono BBb.out.size)⟩
  · have HEX := Lib.hid hex
    clear hex
    go_wp2_with fail
    with_reducible refine CG.out.mono ?_
    intro x wa hpa
    obtain ⟨rfl, hba⟩ := hpa.of_none HEX.out
    clear hpa
    have BBa := Lib.hid (BB10.out.trans (hba.mono BB10.out.size))
    rw [show evs Ent.zero nilV nilV = #[.int .i64 0, .int .u32 0, .int .u32 0, .int .u64 0, .int .u64 0, .int .u32 0, .int .i64 0, .bool false, .int .i64 0, .slice none 0 0, .slice none 0 0] from rfl]
    go_wp2_with fail
    with_reducible refine (known_any _).mono ?_
    rintro x wk ⟨rfl, hbk⟩
    go_wp2
    go_ret
    have bx := BBa.out.alloc BBa.out.size (.cells #[.int .i64 0, .int .u32 0, .int .u32 0, .int .u64 0, .int .u64 0, .int .u32 0, .int .i64 0, .bool false, .int .i64 0, .slice none 0 0, .slice none 0 0] 26)
    exact ⟨rfl, bx.trans (hbk.mono bx.size)⟩

theorem noteBack_walk (e : Note) (A1 A2 : Option Addr) (c1 c2 : Nat) (z : Int) (a : Option Addr) (n cap : Nat) (l : List Nat) (w : World) (hV : EntV w e A1 A2 c1 c2) (hz : (Lit.int .u8 z).wf = true) (hI : InBytes w a n cap l) :
    Calls Try.prog 5 #[.agg (evs e (.slice A1 e.key.length c1) (.slice A2 e.data.length c2)), .int .u8 z, .slice a n cap] w fun x w' => x = .returned (.bool true) ∧ Below w.heap.size w w' := by
  by_cases hlong : longE e = true
  · exact back_long1 e A1 A2 c1 c2 z a n cap w hlong
  · have hlong : longE e = false := by simpa using hlong
    by_cases hn : n ≤ 2000
    · by_cases hok : Ent.ok e = true
      · have hb := bounds_u8 hz
        obtain ⟨y, rfl⟩ : ∃ y : Nat, z = (y : Int) := ⟨z.toNat, by omega⟩
        exact back_good e A1 A2 c1 c2 y (by omega) a n cap l w hV hI hlong hn hok
      · exact back_bad e A1 A2 c1 c2 z a n cap l w hV hI hlong hn hok
    · exact back_long2 e A1 A2 c1 c2 z a n cap w hlong (by omega) (by have := hI.2; omega)

end Go.Proofs.Ytjjkjppaiejajaa
