/-
  The walk of DockFirst.
-/
import Derived.Test.YtnajombhlmbopaaLawB
namespace Go.Proofs.Ytnajombhlmbopaa
open Go.Proofs Go.RowKit
set_option maxRecDepth 100000
set_option linter.unusedVariables false
set_option linter.unusedSimpArgs false

/-- The first day, as the law looks for it. -/
def FsR (F : List Int) (f n : Int) (v17 v18 : Value) : Prop := ∃ j : Nat, j ≤ F.length ∧ v18 = .int .i64 (j : Int) ∧ ((v17 = .int .i64 (-1) ∧ ∀ i, i < j → ¬ (f ≤ (i : Int) ∧ n ≤ fr F i)) ∨ ∃ d : Nat, d < j ∧ v17 = .int .i64 (d : Int) ∧ d < F.length ∧ f ≤ (d : Int) ∧ n ≤ fr F d ∧ ∀ i, i < d → ¬ (f ≤ (i : Int) ∧ n ≤ fr F i))
/-- The day that it found. -/
def fsI (F : List Int) (f n : Int) : Int := match fday F f n with | none => -1 | some d => (d : Int)
def FsE (F : List Int) (f n : Int) (v17 : Value) : Prop := v17 = .int .i64 (fsI F f n)
theorem canc_gone {R : List Int} {q : Ss} (h : Inv R q) (o : Nat) : findH (cancS q o).H o = none := by
  cases hf : findH q.H o with
  | none => rw [cancS_no hf]; exact hf
  | some y =>
    obtain ⟨hy, rfl⟩ := findH_some hf
    rw [cancS_yes hf]
    show findH (delH q.H y.o) y.o = none
    rw [findH_del h.hs, if_pos rfl]


set_option maxHeartbeats 16000000 in
theorem dockFirst_walk (A : Option Addr) (n c : Nat) (l : List Int) (B : Option Addr) (m d : Nat) (a : List Ac) (o : Nat) (f nn : Int) (w : World) (hG : Iin w A n l) (hn : n ≤ maxLen) (hIO : IntsOk l) (hA : Ain w B m a) (hm : m ≤ maxLen) (hAO : ActsOk a) (ho : o < 4294967296) (hf0 : in64 f) (hnn : in64 nn)
    (KN : ∀ W, Calls Try.prog 9 #[] W fun e w' => e = .returned (.bool true) ∧ Below W.heap.size W w') :
    Calls Try.prog 5 #[.slice A n c, .slice B m d, .int .u32 (o : Int), .int .i64 f, .int .i64 nn] w fun e w' => e = .returned (.bool true) ∧ Below w.heap.size w w' := by
  have HG := Lib.hid hG
  have HN := Lib.hid hG.1
  have HK := Lib.hid KN
  have HIO := Lib.hid hIO
  have HA := Lib.hid hA
  have HAO := Lib.hid hAO
  have HM := Lib.hid hA.1
  have hmm : (m : Int) ≤ 9223372036854775807 := by unfold maxLen at hm; omega
  have hnn0 : (n : Int) ≤ 9223372036854775807 := by unfold maxLen at hn; omega
  clear hG KN hn hIO hA hAO hm
  by_cases h200 : 200 < n
  · have e0 : decide ((200 : Int) < (n : Int)) = true := by simp; omega
    go_enter Try.func5, Try.ntmps5
    go_wp2_with fail
    with_reducible refine (HK.out _).mono ?_
    rintro e w2 ⟨rfl, hb⟩
    have HB := Lib.hid hb
    clear hb
    go_wp2
    go_ret
    exact ⟨rfl, HB.out⟩
  · have e0 : decide ((200 : Int) < (n : Int)) = false := by simp; omega
    go_enter Try.func5, Try.ntmps5
    go_wp2_with fail
    with_reducible refine (sw_new (Below.refl _ _) A n c l HG.out (by omega)).mono ?_
    rintro e w1 ⟨hb, ⟨h1, rfl⟩ | ⟨b, h1, rfl, hs, -⟩⟩
    · have HB := Lib.hid hb
      clear hb h1
      go_wp2_with fail
      with_reducible refine (HK.out _).mono ?_
      rintro e w2 ⟨rfl, hb⟩
      have HB2 := Lib.hid (HB.out.trans (hb.mono HB.out.size))
      clear hb
      go_wp2
      go_ret
      exact ⟨rfl, HB2.out⟩
    · have S_1 := Lib.hid hs
      have HNO := Lib.hid h1
      clear hb h1 hs
      go_upto_block 0 with (fail)
      go_cut [13] (fun s13 W => AcE 60 w l b W)
      case first =>
        go_wp2_with fail
        go_loopw [13] (fun i wr => AcR 60 w l a b i wr) (fun i _ => 61 - (intOf i).toNat)
        case atStart => exact ⟨0, ⟨l, []⟩, by omega, by omega, rfl, S_1.out, Nat.le_refl _⟩
        case round =>
          clear S_1
          obtain ⟨j, q, hj, hj2, rfl, hS, hH⟩ := hrel
          have S_2 := Lib.hid hS
          have HH := Lib.hid hH
          clear hS hH
          have hjm : j ≤ m := by have := HM.out; omega
          by_cases hlt : j < m
          · have hlt2 : (j : Int) < (m : Int) := by omega
            by_cases hq3 : j < 60
            · have e2 : decide ((j : Int) < 60) = true := by simp; omega
              have hlt3 : j < a.length := by have := HM.out; omega
              obtain ⟨b0, off, rfl, hbl, hcell⟩ := HA.out.2 (by omega)
              obtain ⟨xx, hxx⟩ : ∃ q, a[j] = q := ⟨_, rfl⟩
              have hcj := hcell j hlt3
              rw [hxx] at hcj
              have HXO := Lib.hid (HAO.out a[j] (List.getElem_mem hlt3))
              rw [hxx] at HXO
              have HCJ := Lib.hid (And.intro hcj hbl)
              clear hcell hxx hcj hbl
              obtain ⟨xt, xo, xf, xk⟩ := xx
              dsimp only at HXO HCJ
              obtain ⟨⟨x0, x1, x2, x3⟩, hbl⟩ := HCJ.out
              rw [← S_2.out.bel.cell (p := ⟨b0, off + j * 4, none⟩) hbl] at x0
              rw [← S_2.out.bel.cell (p := ⟨b0, off + j * 4 + 1, none⟩) hbl] at x1
              rw [← S_2.out.bel.cell (p := ⟨b0, off + j * 4 + 2, none⟩) hbl] at x2
              rw [← S_2.out.bel.cell (p := ⟨b0, off + j * 4 + 3, none⟩) hbl] at x3
              clear hbl
              go_wp2_with fail
              with_reducible refine (sw_act S_2.out xt xo xf xk HXO.out.2.1 HXO.out.2.2.1 HXO.out.2.2.2 (by have := HH.out; omega)).mono ?_
              rintro e w3 ⟨rfl, hs, hf⟩
              have S_3 := Lib.hid hs
              clear hs hf x0 x1 x2 x3
              have HH2 := Lib.hid (actS_len q ⟨xt, xo, xf, xk⟩).1
              go_wp2
              go_roundw
              case rel => exact ⟨j + 1, _, by omega, by omega, by go_num, S_3.out, by have := HH.out; have := HH2.out; omega⟩
              case measure => simp [intOf]; omega
            · have e2 : decide ((j : Int) < 60) = false := by simp; omega
              go_wp2
              go_meet
              exact ⟨q, S_2.out, by have := HH.out; omega⟩
          · have hnl : decide ((j : Int) < (m : Int)) = false := by simp; omega
            go_wp2
            go_meet
            exact ⟨q, S_2.out, by have := HH.out; omega⟩
      obtain ⟨q, hS, hH⟩ := hcut
      have S_4 := Lib.hid hS
      have HH := Lib.hid hH
      clear hS hH S_1
      go_wp2_with fail
      with_reducible refine (sw_canc S_4.out o ho).mono ?_
      rintro e w5 ⟨rfl, hs, hf⟩
      have HQN := Lib.hid (canc_gone S_4.out.inv o)
      have HQL : Hid ((cancS q o).H.length ≤ 60) := Lib.hid (by have := (cancS_len q o).1; have := HH.out; omega)
      have HFL : Hid ((cancS q o).F.length = n) := Lib.hid (by have h1 := (S_4.out.inv.canc o).fl; have h2 := HN.out; rw [h1, h2])
      obtain ⟨q1, hq1⟩ : ∃ q1, cancS q o = q1 := ⟨_, rfl⟩
      rw [hq1] at hs HQN HQL HFL
      have S_5 := Lib.hid hs
      clear hs hf hq1 S_4 HH
      have hn60 : n ≤ 60 := by have h1 := S_5.out.inv.fz; have h2 := HN.out; omega
      go_wp2_with fail
      with_reducible refine (sw_rooms S_5.out n (by omega)).mono ?_
      rintro e w6 ⟨rv, rfl, hr, hs, hf⟩
      have S_6 := Lib.hid hs
      have RI_6 := Lib.hid hr
      clear hs hr hf S_5
      go_wp2_with fail
      with_reducible refine (sw_book S_6.out o f nn ho hf0 hnn (by have := HQL.out; omega)).mono ?_
      rintro e w7 ⟨rfl, hs, hf⟩
      have S_7 := Lib.hid hs
      have RI_7 := Lib.hid (RI_6.out.frm hf)
      clear hs hf S_6 RI_6
      by_cases h0 : o = 0
      · have e4 : (((o : Int) == 0) : Bool) = true := by simp [h0]
        have HV : Hid (bookD q1 o f nn = none) := Lib.hid (by unfold bookD; rw [if_neg (fun h => by omega)])
        have hd0 : dayI (bookD q1 o f nn) = 0 := by rw [HV.out]; rfl
        have hv0 : verd (bookD q1 o f nn).isSome = 2 := by rw [HV.out]; rfl
        rw [hd0, hv0]
        clear hd0 hv0
        go_wp2_with fail
        with_reducible refine (HK.out _).mono ?_
        rintro e w90 ⟨rfl, hb⟩
        have S_90 := Lib.hid (S_7.out.below hb)
        clear hb
        go_wp2
        go_ret
        exact ⟨rfl, S_90.out.bel⟩
      have e4 : (((o : Int) == 0) : Bool) = false := beq_eq_false_iff_ne.2 (by omega)
      by_cases h1 : nn < 1
      · have e5 : decide (nn < 1) = true := by simpa using h1
        have HV : Hid (bookD q1 o f nn = none) := Lib.hid (by unfold bookD; rw [if_neg (fun h => by omega)])
        have hd0 : dayI (bookD q1 o f nn) = 0 := by rw [HV.out]; rfl
        have hv0 : verd (bookD q1 o f nn).isSome = 2 := by rw [HV.out]; rfl
        rw [hd0, hv0]
        clear hd0 hv0
        go_wp2_with fail
        with_reducible refine (HK.out _).mono ?_
        rintro e w90 ⟨rfl, hb⟩
        have S_90 := Lib.hid (S_7.out.below hb)
        clear hb
        go_wp2
        go_ret
        exact ⟨rfl, S_90.out.bel⟩
      have e5 : decide (nn < 1) = false := by simpa using h1
      by_cases h2 : f < 0
      · have e6 : decide (f < 0) = true := by simpa using h2
        have HV : Hid (bookD q1 o f nn = none) := Lib.hid (by unfold bookD; rw [if_neg (fun h => by omega)])
        have hd0 : dayI (bookD q1 o f nn) = 0 := by rw [HV.out]; rfl
        have hv0 : verd (bookD q1 o f nn).isSome = 2 := by rw [HV.out]; rfl
        rw [hd0, hv0]
        clear hd0 hv0
        go_wp2_with fail
        with_reducible refine (HK.out _).mono ?_
        rintro e w90 ⟨rfl, hb⟩
        have S_90 := Lib.hid (S_7.out.below hb)
        clear hb
        go_wp2
        go_ret
        exact ⟨rfl, S_90.out.bel⟩
      have e6 : decide (f < 0) = false := by simpa using h2
      have HVE : Hid (bookD q1 o f nn = fday q1.F f nn) := Lib.hid (by unfold bookD; rw [if_pos ⟨h0, by omega, by omega, HQN.out⟩])
      obtain ⟨Ar, cr, rfl, hri, -⟩ := RI_7.out.iin
      have HRI := Lib.hid hri
      have hrl : (roomsL q1.F n).length = n + 2 := roomsL_len _ _
      rw [hrl] at HRI RI_7 ⊢
      clear hri hrl
      obtain ⟨dv, hdv⟩ : ∃ z, dayI (bookD q1 o f nn) = z := ⟨_, rfl⟩
      obtain ⟨vv, hvv⟩ : ∃ z, verd (bookD q1 o f nn).isSome = z := ⟨_, rfl⟩
      rw [hdv, hvv]
      have HDV := Lib.hid hdv
      have HVV := Lib.hid hvv
      clear hdv hvv
      go_upto_block 2 with (fail)
      go_cut [17, 18] from 85 to 107 (fun s17 s18 W => FsE q1.F f nn s17 ∧ w7 = W)
      case first =>
        go_wp2_with fail
        go_loop [17, 18] (fun v17 v18 => FsR q1.F f nn v17 v18) (fun _ j => n - (intOf j).toNat)
        case atStart => exact ⟨0, by omega, rfl, .inl ⟨rfl, fun i hi => by omega⟩⟩
        case round =>
          obtain ⟨j, hj, rfl, ⟨rfl, hall⟩ | ⟨dd, hd1, rfl, hd2, hd3, hd4, hd5⟩⟩ := hrel
          · have HALL := Lib.hid hall
            clear hall
            have hjn : j ≤ n := by have := HFL.out; omega
            by_cases hlt : j < n
            · have hlt2 : (j : Int) < (n : Int) := by omega
              obtain ⟨gr, og, rfl, -, y0⟩ := RI_7.out.at (j + 1) (by rw [roomsL_len]; omega)
              rw [roomsL_at _ _ _ hlt] at y0
              obtain ⟨x, hx⟩ : ∃ x, fr q1.F j = x := ⟨_, rfl⟩
              rw [hx] at y0
              have HX := Lib.hid hx
              clear hx
              have hj2 : (j : Int) + 1 < ((n + 2 : Nat) : Int) := by omega
              by_cases hfj : f ≤ (j : Int)
              · have e7 : decide (f ≤ (j : Int)) = true := by simpa using hfj
                by_cases hnx : nn ≤ x
                · have e8 : decide (nn ≤ x) = true := by simpa using hnx
                  go_wp2
                  go_round
                  case rel => exact ⟨j + 1, by have := HFL.out; omega, by go_num, .inr ⟨j, by omega, rfl, by have := HFL.out; omega, hfj, by rw [HX.out]; exact hnx, HALL.out⟩⟩
                  case measure => simp [intOf]; omega
                · have e8 : decide (nn ≤ x) = false := by simpa using hnx
                  go_wp2
                  go_round
                  case rel =>
                    refine ⟨j + 1, by have := HFL.out; omega, by go_num, .inl ⟨rfl, fun i hi h => ?_⟩⟩
                    by_cases e : i = j
                    · subst e; rw [HX.out] at h; exact hnx h.2
                    · exact HALL.out i (by omega) h
                  case measure => simp [intOf]; omega
              · have e7 : decide (f ≤ (j : Int)) = false := by simpa using hfj
                go_wp2
                go_round
                case rel =>
                  refine ⟨j + 1, by have := HFL.out; omega, by go_num, .inl ⟨rfl, fun i hi h => ?_⟩⟩
                  by_cases e : i = j
                  · subst e; exact hfj h.1
                  · exact HALL.out i (by omega) h
                case measure => simp [intOf]; omega
            · have hlt2 : decide ((j : Int) < (n : Int)) = false := by simp; omega
              have HE : Hid (fsI q1.F f nn = -1) := Lib.hid (by unfold fsI; rw [fday_none.2 (fun i hi => HALL.out i (by have := HFL.out; omega))])
              go_wp2
              go_meet
              exact ⟨by unfold FsE; rw [HE.out], rfl⟩
          · have HE : Hid (fsI q1.F f nn = (dd : Int)) := Lib.hid (by unfold fsI; rw [fday_some.2 ⟨hd2, hd3, hd4, hd5⟩])
            have e9 : decide ((dd : Int) < 0) = false := by simp
            clear hd3 hd4 hd5
            by_cases hlt : (j : Int) < (n : Int)
            · have hlt2 : decide ((j : Int) < (n : Int)) = true := by simpa using hlt
              go_wp2
              go_meet
              exact ⟨by unfold FsE; rw [HE.out], rfl⟩
            · have hlt2 : decide ((j : Int) < (n : Int)) = false := by simpa using hlt
              go_wp2
              go_meet
              exact ⟨by unfold FsE; rw [HE.out], rfl⟩
      case rest =>
        obtain ⟨hc1, hc2⟩ := hcut
        subst hc2
        unfold FsE at hc1
        subst hc1
        cases hfd : fday q1.F f nn with
        | none =>
          have HV : Hid (bookD q1 o f nn = none) := Lib.hid (by rw [HVE.out, hfd])
          have hfs : fsI q1.F f nn = -1 := by unfold fsI; rw [hfd]
          rw [hfs]
          obtain rfl : dv = 0 := by rw [← HDV.out, HV.out]; rfl
          obtain rfl : vv = 2 := by rw [← HVV.out, HV.out]; rfl
          clear hfs hfd
          go_wp2_with fail
          with_reducible refine (HK.out _).mono ?_
          rintro e w90 ⟨rfl, hb⟩
          have S_90 := Lib.hid (S_7.out.below hb)
          clear hb
          go_wp2
          go_ret
          exact ⟨rfl, S_90.out.bel⟩
        | some dd =>
          obtain ⟨d1, d2, d3, d4⟩ := fday_some.1 hfd
          have HV : Hid (bookD q1 o f nn = some dd) := Lib.hid (by rw [HVE.out, hfd])
          have hfs : fsI q1.F f nn = (dd : Int) := by unfold fsI; rw [hfd]
          rw [hfs]
          obtain rfl : dv = (dd : Int) := by rw [← HDV.out, HV.out]; rfl
          obtain rfl : vv = 1 := by rw [← HVV.out, HV.out]; rfl
          clear hfs hfd
          have hdn : dd < n := by have := HFL.out; omega
          have e9 : decide ((dd : Int) < 0) = false := by simp
          have e10 : (((dd : Int) == (dd : Int)) : Bool) = true := by simp
          have hfb := S_7.out.inv.fb (d := dd) (by have h1 := HN.out; omega)
          have C1 := room_same b (bookS q1 o f nn) (dd : Int) w7.drew S_7.out.drew.ok (by have := S_7.out.fl; omega)
          rw [roomI_nat] at C1
          have HBS : Hid (fr (bookS q1 o f nn).F dd = fr q1.F dd - nn) := Lib.hid (by rw [bookS_yes HV.out]; show fr (q1.F.set dd (fr q1.F dd - nn)) dd = _; rw [fr_set, if_pos ⟨rfl, d1⟩])
          rw [HBS.out] at C1 hfb
          obtain ⟨gr, og, rfl, -, y0⟩ := RI_7.out.at (dd + 1) (by rw [roomsL_len]; omega)
          rw [roomsL_at _ _ _ hdn] at y0
          obtain ⟨x, hx⟩ : ∃ x, fr q1.F dd = x := ⟨_, rfl⟩
          rw [hx] at y0 C1 hfb
          clear hx HBS d2 d3 d4
          have HC1 : Hid (Calls Try.prog 18 #[.pointer (some ⟨b.s, 0, none⟩), .int .i64 (dd : Int)] w7.drew fun e w' => e = .returned (.int .i64 (x - nn)) ∧ w' = w7.drew) := Lib.hid (C1.mono fun e w' ⟨h1, h2⟩ => ⟨h1, h2.symm⟩)
          clear C1
          have ew : IntKind.i64.wrap (x - nn) = x - nn := IntWalk.i64_in _ (by omega)
          have ew2 : IntKind.i64.wrap ((dd : Int) + 1) = (dd : Int) + 1 := IntWalk.i64_in _ (by omega)
          have e11 : ((x - nn == x - nn) : Bool) = true := by simp
          have hd2 : (dd : Int) + 1 < (n : Int) + 2 := by omega
          have hd0 : (0 : Int) ≤ (dd : Int) + 1 := by omega
          have hd3 : decide ((dd : Int) + 1 < 0) = false := by simp; omega
          have hd4 : ((dd : Int) + 1).toNat = dd + 1 := by omega
          go_wp2_with fail
          refine wp_region_still_tail 21 (by kernel_rfl) (by kernel_rfl) ?_
          simp only [List.take_succ_cons, List.take_zero, List.drop_succ_cons, List.drop_zero]
          refine still_val 119 ?va119 rfl (by rfl) ?hya119 ?resta119
          case hya119 => (go_simp; (try with_reducible rfl))
          try simp only [Act.put, List.setIfInBounds_toArray, List.set_cons_zero, List.set_cons_succ]
          refine still_val 120 ?va120 rfl (by rfl) ?hya120 ?resta120
          case hya120 => (go_simp; (try with_reducible rfl))
          try simp only [Act.put, List.setIfInBounds_toArray, List.set_cons_zero, List.set_cons_succ]
          refine still_val 121 ?va121 rfl (by rfl) ?hya121 ?resta121
          case hya121 => (go_simp; (try with_reducible rfl))
          try simp only [Act.put, List.setIfInBounds_toArray, List.set_cons_zero, List.set_cons_succ]
          refine still_val 122 ?va122 rfl (by rfl) ?hya122 ?resta122
          case hya122 => (go_simp; (try with_reducible rfl))
          try simp only [Act.put, List.setIfInBounds_toArray, List.set_cons_zero, List.set_cons_succ]
          refine still_val 123 ?va123 rfl (by rfl) ?hya123 ?resta123
          case hya123 => (go_simp; (try with_reducible rfl))
          try simp only [Act.put, List.setIfInBounds_toArray, List.set_cons_zero, List.set_cons_succ]
          refine still_val 124 ?va124 rfl (by rfl) ?hya124 ?resta124
          case hya124 => (go_simp; (try with_reducible rfl))
          try simp only [Act.put, List.setIfInBounds_toArray, List.set_cons_zero, List.set_cons_succ]
          refine still_val 125 ?va125 rfl (by rfl) ?hya125 ?resta125
          case hya125 => (go_simp; (try with_reducible rfl))
          try simp only [Act.put, List.setIfInBounds_toArray, List.set_cons_zero, List.set_cons_succ]
          refine still_val 126 ?va126 rfl (by rfl) ?hya126 ?resta126
          case hya126 => (go_simp; (try with_reducible rfl))
          try simp only [Act.put, List.setIfInBounds_toArray, List.set_cons_zero, List.set_cons_succ]
          refine still_val 127 ?va127 rfl (by rfl) ?hya127 ?resta127
          case hya127 => (go_simp; (try with_reducible rfl))
          try simp only [Act.put, List.setIfInBounds_toArray, List.set_cons_zero, List.set_cons_succ]
          refine still_val 128 ?va128 rfl (by rfl) ?hya128 ?resta128
          case hya128 => (go_simp; (try with_reducible rfl))
          try simp only [Act.put, List.setIfInBounds_toArray, List.set_cons_zero, List.set_cons_succ]
          refine still_cal 129 _ _ _ rfl (by rfl) ?hya129 HC1.out ?resta129
          case hya129 => (go_simp; (try with_reducible rfl))
          try simp only [Act.put, List.setIfInBounds_toArray, List.set_cons_zero, List.set_cons_succ]
          refine still_val 130 ?va130 rfl (by rfl) ?hya130 ?resta130
          case hya130 => (go_simp; (try with_reducible rfl))
          try simp only [Act.put, List.setIfInBounds_toArray, List.set_cons_zero, List.set_cons_succ]
          refine still_val 131 ?va131 rfl (by rfl) ?hya131 ?resta131
          case hya131 => (go_simp; (try with_reducible rfl))
          try simp only [Act.put, List.setIfInBounds_toArray, List.set_cons_zero, List.set_cons_succ]
          refine still_val 132 ?va132 rfl (by rfl) ?hya132 ?resta132
          case hya132 => (go_simp; (try with_reducible rfl))
          try simp only [Act.put, List.setIfInBounds_toArray, List.set_cons_zero, List.set_cons_succ]
          refine still_val 133 ?va133 rfl (by rfl) ?hya133 ?resta133
          case hya133 => (go_simp; (try with_reducible rfl))
          try simp only [Act.put, List.setIfInBounds_toArray, List.set_cons_zero, List.set_cons_succ]
          refine still_val 134 ?va134 rfl (by rfl) ?hya134 ?resta134
          case hya134 => (go_simp; (try with_reducible rfl))
          try simp only [Act.put, List.setIfInBounds_toArray, List.set_cons_zero, List.set_cons_succ]
          refine still_val 135 ?va135 rfl (by rfl) ?hya135 ?resta135
          case hya135 => (go_simp; (try with_reducible rfl))
          try simp only [Act.put, List.setIfInBounds_toArray, List.set_cons_zero, List.set_cons_succ]
          refine still_val 136 ?va136 rfl (by rfl) ?hya136 ?resta136
          case hya136 => (go_simp; (try with_reducible rfl))
          try simp only [Act.put, List.setIfInBounds_toArray, List.set_cons_zero, List.set_cons_succ]
          refine still_val 137 ?va137 rfl (by rfl) ?hya137 ?resta137
          case hya137 => (go_simp; (try with_reducible rfl))
          try simp only [Act.put, List.setIfInBounds_toArray, List.set_cons_zero, List.set_cons_succ]
          refine still_val 138 ?va138 rfl (by rfl) ?hya138 ?resta138
          case hya138 => (go_simp; (try with_reducible rfl))
          try simp only [Act.put, List.setIfInBounds_toArray, List.set_cons_zero, List.set_cons_succ]
          refine still_val 139 ?va139 rfl (by rfl) ?hya139 ?resta139
          case hya139 => (go_simp; (try with_reducible rfl))
          try simp only [Act.put, List.setIfInBounds_toArray, List.set_cons_zero, List.set_cons_succ]
          refine wpStill_nil ?_
          change wpList _ _ _ _ _ w7.drew
          have S_8 := Lib.hid S_7.out.drew
          go_wp2_with fail
          with_reducible refine (HK.out _).mono ?_
          rintro e w90 ⟨rfl, hb⟩
          have S_90 := Lib.hid (S_8.out.below hb)
          clear hb
          go_wp2
          go_ret
          exact ⟨rfl, S_90.out.bel⟩

end Go.Proofs.Ytnajombhlmbopaa
