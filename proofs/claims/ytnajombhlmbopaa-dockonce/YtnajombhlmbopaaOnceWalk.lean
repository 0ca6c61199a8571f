/-
  The walk of DockOnce.
-/
import Derived.Test.YtnajombhlmbopaaLawB
namespace Go.Proofs.Ytnajombhlmbopaa
open Go.Proofs Go.RowKit
set_option maxRecDepth 100000
set_option linter.unusedVariables false
set_option linter.unusedSimpArgs false

theorem canc_gone {R : List Int} {q : Ss} (h : Inv R q) (o : Nat) : findH (cancS q o).H o = none := by
  cases hf : findH q.H o with
  | none => rw [cancS_no hf]; exact hf
  | some y =>
    obtain ⟨hy, rfl⟩ := findH_some hf
    rw [cancS_yes hf]
    show findH (delH q.H y.o) y.o = none
    rw [findH_del h.hs, if_pos rfl]
/-- All that is asked of a dock with a booking more. -/
structure OnF (q1 q2 : Ss) (o : Nat) : Prop where
  b : bookD q2 o 0 1 = none
  l : q2.H.length = q1.H.length + 1
  f : (findH q2.H o).isSome = true
  c : cancS q2 o = q1
theorem onF {R : List Int} {q1 : Ss} (h : Inv R q1) {o : Nat} {f n : Int} {dd : Nat} (hv : bookD q1 o f n = some dd) : OnF q1 (bookS q1 o f n) o := by
  obtain ⟨⟨h0, h1, h2, h3⟩, hd⟩ := bookD_some.1 hv
  have hf : findH (bookS q1 o f n).H o = some ⟨o, dd, n⟩ := by
    rw [bookS_yes hv]
    show findH (insH ⟨o, dd, n⟩ q1.H) o = _
    rw [findH_ins h.hs (h := ⟨o, dd, n⟩) (findH_none h3), if_pos rfl]
  refine ⟨?_, ?_, by rw [hf]; rfl, book_canc h hv⟩
  · unfold bookD
    rw [if_neg (fun hh => by rw [hf] at hh; cases hh.2.2.2)]
  · rw [bookS_yes hv]
    exact insH_length _ _


set_option maxHeartbeats 16000000 in
theorem dockOnce_walk (A : Option Addr) (n c : Nat) (l : List Int) (B : Option Addr) (m d : Nat) (a : List Ac) (o : Nat) (f nn : Int) (w : World) (hG : Iin w A n l) (hn : n ≤ maxLen) (hIO : IntsOk l) (hA : Ain w B m a) (hm : m ≤ maxLen) (hAO : ActsOk a) (ho : o < 4294967296) (hf0 : in64 f) (hnn : in64 nn)
    (KN : ∀ W, Calls Try.prog 9 #[] W fun e w' => e = .returned (.bool true) ∧ Below W.heap.size W w') :
    Calls Try.prog 6 #[.slice A n c, .slice B m d, .int .u32 (o : Int), .int .i64 f, .int .i64 nn] w fun e w' => e = .returned (.bool true) ∧ Below w.heap.size w w' := by
  have HG := Lib.hid hG
  have HN := Lib.hid hG.1
  have HK := Lib.hid KN
  have HIO := Lib.hid hIO
  have HA := Lib.hid hA
  have HAO := Lib.hid hAO
  have HM := Lib.hid hA.1
  have hmm : (m : Int) ≤ 9223372036854775807 := by unfold maxLen at hm; omega
  have hnn0 : (n : Int) ≤ 9223372036854775807 := by unfold maxLen at hn; omega
  clear hG KN hn hIO hA hAO hm
  by_cases h200 : 200 < n
  · have e0 : decide ((200 : Int) < (n : Int)) = true := by simp; omega
    go_enter Try.func6, Try.ntmps6
    go_wp2_with fail
    with_reducible refine (HK.out _).mono ?_
    rintro e w2 ⟨rfl, hb⟩
    have HB := Lib.hid hb
    clear hb
    go_wp2
    go_ret
    exact ⟨rfl, HB.out⟩
  · have e0 : decide ((200 : Int) < (n : Int)) = false := by simp; omega
    go_enter Try.func6, Try.ntmps6
    go_wp2_with fail
    with_reducible refine (sw_new (Below.refl _ _) A n c l HG.out (by omega)).mono ?_
    rintro e w1 ⟨hb, ⟨h1, rfl⟩ | ⟨b, h1, rfl, hs, -⟩⟩
    · have HB := Lib.hid hb
      clear hb h1
      go_wp2_with fail
      with_reducible refine (HK.out _).mono ?_
      rintro e w2 ⟨rfl, hb⟩
      have HB2 := Lib.hid (HB.out.trans (hb.mono HB.out.size))
      clear hb
      go_wp2
      go_ret
      exact ⟨rfl, HB2.out⟩
    · have S_1 := Lib.hid hs
      have HNO := Lib.hid h1
      clear hb h1 hs
      go_upto_block 0 with (fail)
      go_cut [13] (fun s13 W => AcE 60 w l b W)
      case first =>
        go_wp2_with fail
        go_loopw [13] (fun i wr => AcR 60 w l a b i wr) (fun i _ => 61 - (intOf i).toNat)
        case atStart => exact ⟨0, ⟨l, []⟩, by omega, by omega, rfl, S_1.out, Nat.le_refl _⟩
        case round =>
          clear S_1
          obtain ⟨j, q, hj, hj2, rfl, hS, hH⟩ := hrel
          have S_2 := Lib.hid hS
          have HH := Lib.hid hH
          clear hS hH
          have hjm : j ≤ m := by have := HM.out; omega
          by_cases hlt : j < m
          · have hlt2 : (j : Int) < (m : Int) := by omega
            by_cases hq3 : j < 60
            · have e2 : decide ((j : Int) < 60) = true := by simp; omega
              have hlt3 : j < a.length := by have := HM.out; omega
              obtain ⟨b0, off, rfl, hbl, hcell⟩ := HA.out.2 (by omega)
              obtain ⟨xx, hxx⟩ : ∃ q, a[j] = q := ⟨_, rfl⟩
              have hcj := hcell j hlt3
              rw [hxx] at hcj
              have HXO := Lib.hid (HAO.out a[j] (List.getElem_mem hlt3))
              rw [hxx] at HXO
              have HCJ := Lib.hid (And.intro hcj hbl)
              clear hcell hxx hcj hbl
              obtain ⟨xt, xo, xf, xk⟩ := xx
              dsimp only at HXO HCJ
              obtain ⟨⟨x0, x1, x2, x3⟩, hbl⟩ := HCJ.out
              rw [← S_2.out.bel.cell (p := ⟨b0, off + j * 4, none⟩) hbl] at x0
              rw [← S_2.out.bel.cell (p := ⟨b0, off + j * 4 + 1, none⟩) hbl] at x1
              rw [← S_2.out.bel.cell (p := ⟨b0, off + j * 4 + 2, none⟩) hbl] at x2
              rw [← S_2.out.bel.cell (p := ⟨b0, off + j * 4 + 3, none⟩) hbl] at x3
              clear hbl
              go_wp2_with fail
              with_reducible refine (sw_act S_2.out xt xo xf xk HXO.out.2.1 HXO.out.2.2.1 HXO.out.2.2.2 (by have := HH.out; omega)).mono ?_
              rintro e w3 ⟨rfl, hs, hf⟩
              have S_3 := Lib.hid hs
              clear hs hf x0 x1 x2 x3
              have HH2 := Lib.hid (actS_len q ⟨xt, xo, xf, xk⟩).1
              go_wp2
              go_roundw
              case rel => exact ⟨j + 1, _, by omega, by omega, by go_num, S_3.out, by have := HH.out; have := HH2.out; omega⟩
              case measure => simp [intOf]; omega
            · have e2 : decide ((j : Int) < 60) = false := by simp; omega
              go_wp2
              go_meet
              exact ⟨q, S_2.out, by have := HH.out; omega⟩
          · have hnl : decide ((j : Int) < (m : Int)) = false := by simp; omega
            go_wp2
            go_meet
            exact ⟨q, S_2.out, by have := HH.out; omega⟩
      obtain ⟨q, hS, hH⟩ := hcut
      have S_4 := Lib.hid hS
      have HH := Lib.hid hH
      clear hS hH S_1
      go_wp2_with fail
      with_reducible refine (sw_canc S_4.out o ho).mono ?_
      rintro e w5 ⟨rfl, hs, hf⟩
      have HQN := Lib.hid (canc_gone S_4.out.inv o)
      have HQL : Hid ((cancS q o).H.length ≤ 60) := Lib.hid (by have := (cancS_len q o).1; have := HH.out; omega)
      obtain ⟨q1, hq1⟩ : ∃ q1, cancS q o = q1 := ⟨_, rfl⟩
      rw [hq1] at hs HQN HQL
      have S_5 := Lib.hid hs
      clear hs hf hq1 S_4 HH
      have hn60 : n ≤ 60 := by have h1 := S_5.out.inv.fz; have h2 := HN.out; omega
      have hlen : (q1.H.length : Int) ≤ 60 := by have := HQL.out; omega
      go_wp2_with fail
      with_reducible refine (sw_bks S_5.out (by have := HQL.out; omega)).mono ?_
      rintro e w6 ⟨RAv, rfl, hr, hs, hf⟩
      have S_6 := Lib.hid hs
      have RA_6 := Lib.hid hr
      clear hs hf hr
      obtain ⟨Aa, ca, rfl, -, -⟩ := RA_6.out.hin
      go_wp2_with fail
      with_reducible refine (sw_rooms S_6.out n (by omega)).mono ?_
      rintro e w7 ⟨RBv, rfl, hr, hs, hf⟩
      have S_7 := Lib.hid hs
      have RA_7 := Lib.hid (RA_6.out.below hf)
      have RB_7 := Lib.hid hr
      clear hs hf hr
      go_wp2_with fail
      with_reducible refine (sw_canc S_7.out o ho).mono ?_
      rintro e w8 ⟨he, hs, hf⟩
      have hv : verd (findH q1.H o).isSome = 2 := by rw [HQN.out]; rfl
      rw [hv] at he
      clear hv
      subst he
      rw [cancS_no HQN.out] at hs
      have S_8 := Lib.hid hs
      have RA_8 := Lib.hid (RA_7.out.frm hf)
      have RB_8 := Lib.hid (RB_7.out.frm hf)
      clear hs hf
      obtain ⟨D, hD⟩ : ∃ D, bookD q1 o f nn = D := ⟨_, rfl⟩
      have HD := Lib.hid hD
      clear hD
      go_wp2_with fail
      with_reducible refine (sw_book S_8.out o f nn ho hf0 hnn (by have := HQL.out; omega)).mono ?_
      rintro e w9 ⟨he, hs, hf⟩
      rw [HD.out] at he
      subst he
      have S_9 := Lib.hid hs
      have RA_9 := Lib.hid (RA_8.out.frm hf)
      have RB_9 := Lib.hid (RB_8.out.frm hf)
      clear hs hf
      cases D with
      | none =>
        have hu2 : dayI none = 0 := rfl
        have hv2 : verd (none : Option Nat).isSome = 2 := rfl
        rw [hu2, hv2]
        clear hu2 hv2
        have HBN : Hid (Calls Try.prog 23 #[.pointer none, .int .u32 1, .int .i64 0, .int .i64 1] w9 fun e w' => e = .returned (.tuple #[.int .i64 0, .int .i64 2]) ∧ w9 = w') := Lib.hid (book_nil _ _ _ _)
        have HCN : Hid (Calls Try.prog 22 #[.pointer none, .int .u32 1] w9 fun e w' => e = .returned (.int .i64 2) ∧ w9 = w') := Lib.hid (canc_nil _ _)
        have HRN : Hid (Calls Try.prog 18 #[.pointer none, .int .i64 0] w9 fun e w' => e = .returned (.int .i64 0) ∧ w9 = w') := Lib.hid (room_nil _ _)
        have HKN : Hid (Calls Try.prog 15 #[.pointer none] w9 fun e w' => e = .returned (.slice none 0 0) ∧ w9 = w') := Lib.hid (bks_nil _)
        go_wp2_with fail
        with_reducible refine HBN.out.mono ?_
        rintro e wa ⟨rfl, hb⟩
        subst hb
        go_wp2_with fail
        with_reducible refine HCN.out.mono ?_
        rintro e wb ⟨rfl, hb⟩
        subst hb
        go_wp2_with fail
        with_reducible refine HRN.out.mono ?_
        rintro e wc ⟨rfl, hb⟩
        subst hb
        go_wp2_with fail
        with_reducible refine HKN.out.mono ?_
        rintro e wd ⟨rfl, hb⟩
        subst hb
        go_wp2_with fail
        with_reducible refine (HK.out _).mono ?_
        rintro e w90 ⟨rfl, hb⟩
        have S_90 := Lib.hid (S_9.out.below hb)
        clear hb
        go_wp2
        go_ret
        exact ⟨rfl, S_90.out.bel⟩
      | some dd =>
        have hu2 : dayI (some dd) = (dd : Int) := rfl
        have hv2 : verd (some dd).isSome = 1 := rfl
        rw [hu2, hv2]
        clear hu2 hv2
        have HON := Lib.hid (onF S_5.out.inv HD.out)
        obtain ⟨q2, hq2⟩ : ∃ q2, bookS q1 o f nn = q2 := ⟨_, rfl⟩
        rw [hq2] at HON S_9
        have HQ2 := Lib.hid hq2
        clear hq2
        have hlen2 : (q2.H.length : Int) = (q1.H.length : Int) + 1 := by have := HON.out.l; omega
        have CB : Hid (Calls Try.prog 23 #[.pointer (some ⟨b.s, 0, none⟩), .int .u32 (o : Int), .int .i64 0, .int .i64 1] w9 (SwPost2 w w9 l b (bookS q2 o 0 1) (dayI (bookD q2 o 0 1)) (verd (bookD q2 o 0 1).isSome))) := Lib.hid (sw_book S_9.out o 0 1 ho in64_0 in64_1 (by have := HQL.out; have := HON.out.l; omega))
        go_wp2_with fail
        with_reducible refine (CB.out).mono ?_
        rintro e w10 ⟨he, hs, hf⟩
        rw [HON.out.b] at he
        have hv : verd (none : Option Nat).isSome = 2 := rfl
        rw [hv] at he
        clear hv
        subst he
        rw [bookS_no HON.out.b] at hs
        have S_10 := Lib.hid hs
        have RA_10 := Lib.hid (RA_9.out.frm hf)
        have RB_10 := Lib.hid (RB_9.out.frm hf)
        clear hs hf
        go_wp2_with fail
        with_reducible refine (sw_bks S_10.out (by have := HQL.out; have := HON.out.l; omega)).mono ?_
        rintro e w11 ⟨RCv, rfl, hr, hs, hf⟩
        have S_11 := Lib.hid hs
        have RA_11 := Lib.hid (RA_10.out.below hf)
        have RB_11 := Lib.hid (RB_10.out.below hf)
        have RC_11 := Lib.hid hr
        clear hs hf hr
        obtain ⟨Ac, cc, rfl, -, -⟩ := RC_11.out.hin
        have f1 : (((q2.H.length : Int) != (q1.H.length : Int) + 1) : Bool) = false := by rw [hlen2]; simp
        go_wp2_with fail
        with_reducible refine (sw_canc S_11.out o ho).mono ?_
        rintro e w12 ⟨he, hs, hf⟩
        rw [HON.out.f] at he
        have hv : verd true = 1 := rfl
        rw [hv] at he
        clear hv
        subst he
        rw [HON.out.c] at hs
        have S_12 := Lib.hid hs
        have RA_12 := Lib.hid (RA_11.out.frm hf)
        have RB_12 := Lib.hid (RB_11.out.frm hf)
        have RC_12 := Lib.hid (RC_11.out.frm hf)
        clear hs hf
        clear f1 hlen2
        go_wp2_with fail
        with_reducible refine (sw_bks S_12.out (by have := HQL.out; omega)).mono ?_
        rintro e w13 ⟨RDv, rfl, hr, hs, hf⟩
        have S_13 := Lib.hid hs
        have RA_13 := Lib.hid (RA_12.out.below hf)
        have RB_13 := Lib.hid (RB_12.out.below hf)
        have RC_13 := Lib.hid (RC_12.out.below hf)
        have RD_13 := Lib.hid hr
        clear hs hf hr
        go_wp2_with fail
        with_reducible refine (sw_sameH S_13.out RD_13.out RA_13.out (by have := HQL.out; omega)).mono ?_
        rintro e w14 ⟨he, hs, hf⟩
        subst he
        have S_14 := Lib.hid hs
        have RA_14 := Lib.hid (RA_13.out.below hf)
        have RB_14 := Lib.hid (RB_13.out.below hf)
        have RC_14 := Lib.hid (RC_13.out.below hf)
        have RD_14 := Lib.hid (RD_13.out.below hf)
        clear hs hf
        go_wp2_with fail
        with_reducible refine (sw_rooms S_14.out n (by omega)).mono ?_
        rintro e w15 ⟨REv, rfl, hr, hs, hf⟩
        have S_15 := Lib.hid hs
        have RA_15 := Lib.hid (RA_14.out.below hf)
        have RB_15 := Lib.hid (RB_14.out.below hf)
        have RC_15 := Lib.hid (RC_14.out.below hf)
        have RD_15 := Lib.hid (RD_14.out.below hf)
        have RE_15 := Lib.hid hr
        clear hs hf hr
        go_wp2_with fail
        with_reducible refine (sw_sameI S_15.out RE_15.out RB_15.out (by rw [roomsL_len]; omega)).mono ?_
        rintro e w16 ⟨he, hs, hf⟩
        subst he
        have S_16 := Lib.hid hs
        have RA_16 := Lib.hid (RA_15.out.below hf)
        have RB_16 := Lib.hid (RB_15.out.below hf)
        have RC_16 := Lib.hid (RC_15.out.below hf)
        have RD_16 := Lib.hid (RD_15.out.below hf)
        have RE_16 := Lib.hid (RE_15.out.below hf)
        clear hs hf
        go_wp2_with fail
        with_reducible refine (sw_book S_16.out o f nn ho hf0 hnn (by have := HQL.out; omega)).mono ?_
        rintro e w17 ⟨he, hs, hf⟩
        rw [HD.out] at he
        have hu2 : dayI (some dd) = (dd : Int) := rfl
        have hv2 : verd (some dd).isSome = 1 := rfl
        rw [hu2, hv2] at he
        clear hu2 hv2
        subst he
        have S_17 := Lib.hid hs
        have RA_17 := Lib.hid (RA_16.out.frm hf)
        have RB_17 := Lib.hid (RB_16.out.frm hf)
        have RC_17 := Lib.hid (RC_16.out.frm hf)
        have RD_17 := Lib.hid (RD_16.out.frm hf)
        have RE_17 := Lib.hid (RE_16.out.frm hf)
        clear hs hf
        have f2 : (((dd : Int) != (dd : Int)) : Bool) = false := by simp
        have HBN : Hid (Calls Try.prog 23 #[.pointer none, .int .u32 1, .int .i64 0, .int .i64 1] w17 fun e w' => e = .returned (.tuple #[.int .i64 0, .int .i64 2]) ∧ w17 = w') := Lib.hid (book_nil _ _ _ _)
        have HCN : Hid (Calls Try.prog 22 #[.pointer none, .int .u32 1] w17 fun e w' => e = .returned (.int .i64 2) ∧ w17 = w') := Lib.hid (canc_nil _ _)
        have HRN : Hid (Calls Try.prog 18 #[.pointer none, .int .i64 0] w17 fun e w' => e = .returned (.int .i64 0) ∧ w17 = w') := Lib.hid (room_nil _ _)
        have HKN : Hid (Calls Try.prog 15 #[.pointer none] w17 fun e w' => e = .returned (.slice none 0 0) ∧ w17 = w') := Lib.hid (bks_nil _)
        go_wp2_with fail
        with_reducible refine HBN.out.mono ?_
        rintro e wa ⟨rfl, hb⟩
        subst hb
        go_wp2_with fail
        with_reducible refine HCN.out.mono ?_
        rintro e wb ⟨rfl, hb⟩
        subst hb
        go_wp2_with fail
        with_reducible refine HRN.out.mono ?_
        rintro e wc ⟨rfl, hb⟩
        subst hb
        go_wp2_with fail
        with_reducible refine HKN.out.mono ?_
        rintro e wd ⟨rfl, hb⟩
        subst hb
        go_wp2_with fail
        with_reducible refine (HK.out _).mono ?_
        rintro e w90 ⟨rfl, hb⟩
        have S_90 := Lib.hid (S_17.out.below hb)
        clear hb
        go_wp2
        go_ret
        exact ⟨rfl, S_90.out.bel⟩

end Go.Proofs.Ytnajombhlmbopaa
