/-
  The walk of CrewUndone.
-/
import Derived.Deep.CutRange
import Derived.Deep.CutBlock
import Derived.Deep.DeepCutAuto
import Derived.Test.YtpbclmnhkmcknaaGreatUndoneQ0
namespace Go.Proofs.YtpbclmnhkmcknaaGreat
open Go.RowKit
open Fe (Lies Own Bys Reads NF Kx Kp Note)
set_option maxRecDepth 100000
set_option linter.unusedVariables false
set_option linter.unusedSimpArgs false

/-- Over the asks. -/
def UnR (w : World) (cc n : Nat) (vg va t v : Value) (wr : World) : Prop := ∃ (j : Nat) (b : CB) (q : Cq) (L : List Nn) (A : Option Addr) (c : Nat), j ≤ 60 ∧ j ≤ n ∧ v = .int .i64 (j : Int) ∧ t = .slice A L.length c ∧ CW w wr smR cc b q ∧ FI q (L.map Nn.d) ∧ firstQ q = firstQ smQ ∧ q.f.n ≤ j ∧ L.length ≤ j ∧ Kept wr b w.heap.size (.slice A L.length c) vg va L
/-- Behind them. -/
def UnE (w : World) (cc : Nat) (vg va t : Value) (wr : World) : Prop := ∃ (b : CB) (q : Cq) (L : List Nn) (A : Option Addr) (c : Nat), t = .slice A L.length c ∧ CW w wr smR cc b q ∧ FI q (L.map Nn.d) ∧ firstQ q = firstQ smQ ∧ q.f.n ≤ 60 ∧ L.length ≤ 60 ∧ Kept wr b w.heap.size (.slice A L.length c) vg va L
/-- Back. -/
def UbR (w : World) (cc : Nat) (vg va t : Value) (L : List Nn) (v : Value) (wr : World) : Prop := ∃ (m : Nat) (b : CB) (q : Cq), m ≤ L.length ∧ v = .int .i64 ((m : Int) - 1) ∧ CW w wr smR cc b q ∧ UI q ((L.map Nn.d).take m) ∧ DI q ((L.map Nn.d).take m) ∧ q.f.ep ≤ 2 ∧ q.f.n + m ≤ 120 ∧ firstQ q = firstQ smQ ∧ Kept wr b w.heap.size t vg va L
/-- Over the accounts. -/
def UcR (w : World) (h v : Value) (wr : World) : Prop := ∃ k : Nat, k ≤ 2 ∧ v = .int .i64 (k : Int) ∧ h = .int .i64 0 ∧ Below w.heap.size w wr
theorem take_more {D : List Dn} {m : Nat} (h : m < D.length) : D.take (m + 1) = D.take m ++ [D[m]] := by
  rw [List.take_succ_eq_append_getElem h]
set_option maxHeartbeats 16000000 in
theorem crewUndone_walk (A : Option Addr) (n c : Nat) (X : Nat → Ax) (w : World) (hA : AV w A n c X) :
    Calls Tryz.prog 7 #[.slice A n c] w fun e w' => e = .returned (.bool true) ∧ Below w.heap.size w w' := by
  have HA := Lib.hid hA
  have hn : (n : Int) ≤ 9223372036854775807 := by have h1 := hA.1; have h2 := hA.2.1; unfold maxLen at h2; omega
  clear hA
  go_enter Tryz.func7, Tryz.ntmps7
  go_wp2_with fail
  with_reducible refine (small_any w).mono ?_
  rintro e w1 ⟨b, rfl, hs⟩
  have S_1 := Lib.hid hs
  clear hs
  obtain ⟨cc, hcc⟩ : ∃ cc, b.c = cc := ⟨_, rfl⟩
  rw [hcc] at S_1 ⊢
  clear hcc
  go_wp2_with fail
  with_reducible refine (long_any A n c X w1 (HA.out.below S_1.out.bel)).mono ?_
  rintro e w2 ⟨hb, t, rfl, ht⟩
  have S_2 := Lib.hid (S_1.out.below hb)
  have HT := Lib.hid ht
  clear hb ht S_1
  cases t
  · have HS : Hid (ShortA n X) := Lib.hid (HT.out rfl)
    clear HT
    go_wp2_with fail
    with_reducible refine (cw_goods S_2.out).mono ?_
    rintro e w3 ⟨vg, rfl, hr, hb⟩
    have S_3 := Lib.hid (S_2.out.below hb)
    have RG_3 := Lib.hid hr
    clear hr hb
    go_wp2_with fail
    with_reducible refine (cw_accts S_3.out).mono ?_
    rintro e w4 ⟨va, rfl, hr, hb⟩
    have S_4 := Lib.hid (S_3.out.below hb)
    have RG_4 := Lib.hid (RG_3.out.below hb)
    have RA_4 := Lib.hid hr
    clear hr hb
    obtain ⟨A5, c5, hvg, -, h5⟩ := G_row RG_4.out
    obtain ⟨g5, rfl, -⟩ := h5 0 (by decide)
    have hvg : vg = .slice (some ⟨g5, 0, none⟩) 2 c5 := hvg
    subst hvg
    obtain ⟨A6, c6, hva, -, h6⟩ := A_row RA_4.out
    obtain ⟨g6, rfl, -⟩ := h6 0 (by decide)
    have hva : va = .slice (some ⟨g6, 0, none⟩) 2 c6 := hva
    subst hva
    clear h5 h6
    have R0 := Lib.hid (cw_room S_4.out 0)
    rw [show Do.roomI smQ.d.F 0 = 3 from rfl] at R0
    have R1 := Lib.hid (cw_room S_4.out 1)
    rw [show Do.roomI smQ.d.F 1 = 5 from rfl] at R1
    go_wp2_with fail
    with_reducible refine R0.out.mono ?_
    rintro e _ ⟨rfl, rfl⟩
    go_wp2_with fail
    with_reducible refine R1.out.mono ?_
    rintro e _ ⟨rfl, rfl⟩
    clear R0 R1
    have KP_0 : Hid (Kept w4 b w.heap.size (.slice none 0 0) (.slice (some ⟨g5, 0, none⟩) 2 c5) (.slice (some ⟨g6, 0, none⟩) 2 c6) []) := Lib.hid ⟨St.OwnE.nil _ _, (fun n hn => by cases hn), (fun n hn => by cases hn), ⟨_, RG_4.out⟩, ⟨_, RA_4.out⟩⟩
    clear RG_3 RG_4 RA_4
    go_upto_block 0 with (fail)
    go_cut [8] (fun s8 W => UnE w cc (.slice (some ⟨g5, 0, none⟩) 2 c5) (.slice (some ⟨g6, 0, none⟩) 2 c6) s8 W)
    case first =>
      go_wp2_with fail
      go_loopw [8, 9] (fun t i wr => UnR w cc n (.slice (some ⟨g5, 0, none⟩) 2 c5) (.slice (some ⟨g6, 0, none⟩) 2 c6) t i wr) (fun _ i _ => 61 - (intOf i).toNat)
      case atStart => exact ⟨0, b, smQ, [], none, 0, by omega, by omega, rfl, rfl, S_4.out, FI.start (by decide), rfl, Nat.zero_le _, Nat.zero_le _, KP_0.out⟩
      case round =>
        clear KP_0 S_4 S_3 S_2
        obtain ⟨j, b, q, L, A, c, hj, hjn, rfl, rfl, hS, hFI, hF, hqn, hll, hK⟩ := hrel
        have S_4 := Lib.hid hS
        have FI_4 := Lib.hid hFI
        have HF_4 := Lib.hid hF
        have KP_4 := Lib.hid hK
        have HAr := Lib.hid (HA.out.below hS.bel)
        clear hS hFI hF hK
        by_cases hlt : j < n
        · by_cases h60 : j < 60
          · have hlt2 : (j : Int) < (n : Int) := by omega
            have hlt3 : decide ((j : Int) < (n : Int)) = true := by simp; omega
            have h3 : decide ((j : Int) < 60) = true := by simp; omega
            obtain ⟨g, o, rfl, -⟩ := HAr.out.2.2.2.1 (by omega)
            obtain ⟨x0, x1, x2, x3, x4, x5, x6, x7⟩ := HAr.out.2.2.2.at j hlt
            have HX := Lib.hid (HAr.out.2.2.2.2 j hlt)
            have HX0 := Lib.hid (HA.out.2.2.2.2 j hlt)
            have HSX := Lib.hid (HS.out j hlt (by omega))
            obtain ⟨x, hx⟩ : ∃ x, X j = x := ⟨_, rfl⟩
            rw [hx] at x0 x1 x2 x3 x4 x5 x6 x7 HX HX0 HSX
            clear hx
            go_wp2_with fail
            with_reducible refine (asknote_any2 x wr HX.out).mono ?_
            rintro e w5 ⟨hb, A2, c2, rfl, hin, hown, hlt5⟩
            have HNE := Lib.hid (ask_apart S_4.out HX0.out KP_4.out.row hown)
            obtain ⟨w6, HW, hl, hb6, hi6⟩ : ∃ W, W = w5.alloc (.cells #[.int .i64 7, .int .u32 (x.e : Int), .int .u32 0, .int .u64 0, .int .u64 0, .int .u32 (x.o : Int), .int .i64 x.s, .bool x.u, .int .i64 0, .slice none 0 0, .slice A2 (askD x).length c2] 55) ∧ Lies W w5.heap.size 55 #[.int .i64 7, .int .u32 (x.e : Int), .int .u32 0, .int .u64 0, .int .u64 0, .int .u32 (x.o : Int), .int .i64 x.s, .bool x.u, .int .i64 0, .slice none 0 0, .slice A2 (askD x).length c2] ∧ Below w5.heap.size w5 W ∧ InBytes W A2 (askD x).length c2 (askD x) := ⟨_, rfl, Lies.made w5 55 _, Fe.below1 _ _, hin.below (Fe.below1 _ _)⟩
            have HB5 := Lib.hid hb
            have HIN := Lib.hid hin
            have HOW := Lib.hid hown
            have HLT5 := Lib.hid hlt5
            have LN_6 := Lib.hid hl
            have HBN_6 := Lib.hid hb6
            have CD := Lib.hid (rdecode_any (askD x) A2 c2 w6 hi6 (askD_big HSX.out))
            clear hb hin hown hlt5 hl hb6 hi6 HX HAr x0 x1 x2 x3 x4 x5 x6 x7
            go_wp2_with fail
            rw [← HW]
            clear HW
            with_reducible refine CD.out.mono ?_
            rintro e w7 ⟨hb, hd⟩
            have LN_7 := Lib.hid (LN_6.out.below hb LN_6.out.lt)
            have HBN_7 := Lib.hid (HBN_6.out.trans (hb.mono HBN_6.out.size))
            clear hb CD LN_6 HBN_6
            rcases hd with ⟨hd, rfl⟩ | ⟨k, v, hk, rfl, htx⟩
            · have La : Lies (w7.alloc (.cells #[.int .i64 0, .int .i64 0, .slice none 0 0] 24)) w5.heap.size 55 #[.int .i64 7, .int .u32 (x.e : Int), .int .u32 0, .int .u64 0, .int .u64 0, .int .u32 (x.o : Int), .int .i64 x.s, .bool x.u, .int .i64 0, .slice none 0 0, .slice A2 (askD x).length c2] := LN_7.out.alloc _
              have Lb : Lies ((w7.alloc (.cells #[.int .i64 0, .int .i64 0, .slice none 0 0] 24)).setCell ⟨w5.heap.size, 1, none⟩ (.int .u32 1)) w5.heap.size 55 #[.int .i64 7, .int .u32 1, .int .u32 0, .int .u64 0, .int .u64 0, .int .u32 (x.o : Int), .int .i64 x.s, .bool x.u, .int .i64 0, .slice none 0 0, .slice A2 (askD x).length c2] := La.put 1 _
              have hbW : Below w5.heap.size w5 (((w7.alloc (.cells #[.int .i64 0, .int .i64 0, .slice none 0 0] 24)).setCell ⟨w5.heap.size, 1, none⟩ (.int .u32 1)).setCell ⟨w5.heap.size, 7, none⟩ (.bool false)) := ((HBN_7.out.alloc HBN_7.out.size _).setCell (p := ⟨w5.heap.size, 1, none⟩) (Nat.le_refl _) _).setCell (p := ⟨w5.heap.size, 7, none⟩) (Nat.le_refl _) _
              have Lc : Lies (((w7.alloc (.cells #[.int .i64 0, .int .i64 0, .slice none 0 0] 24)).setCell ⟨w5.heap.size, 1, none⟩ (.int .u32 1)).setCell ⟨w5.heap.size, 7, none⟩ (.bool false)) w5.heap.size 55 #[.int .i64 7, .int .u32 1, .int .u32 0, .int .u64 0, .int .u64 0, .int .u32 (x.o : Int), .int .i64 x.s, .bool false, .int .i64 0, .slice none 0 0, .slice A2 (askD x).length c2] := Lb.put 7 _
              have Lw : Lies (((w7.alloc (.cells #[.int .i64 0, .int .i64 0, .slice none 0 0] 24)).setCell ⟨w5.heap.size, 1, none⟩ (.int .u32 1)).setCell ⟨w5.heap.size, 7, none⟩ (.bool false)) w7.heap.size 24 #[.int .i64 0, .int .i64 0, .slice none 0 0] := ((Lies.made w7 24 _).other (a := ⟨w5.heap.size, 1, none⟩) (by have := LN_7.out.lt; show w7.heap.size ≠ w5.heap.size; omega) _).other (a := ⟨w5.heap.size, 7, none⟩) (by have := LN_7.out.lt; show w7.heap.size ≠ w5.heap.size; omega) _
              obtain ⟨n0, n1, n2, n3, n4, n5, n6, n7, n8, n9, n10⟩ := La.cells11
              obtain ⟨f0, f1, f2, f3, f4, f5, f6, f7, f8, f9, f10⟩ := La.free11
              obtain ⟨m0, m1, m2, m3, m4, m5, m6, m7, m8, m9, m10⟩ := Lb.cells11
              obtain ⟨p0, p1, p2, p3, p4, p5, p6, p7, p8, p9, p10⟩ := Lb.free11
              obtain ⟨l0, l1, l2⟩ := Lw.cells3
              obtain ⟨W8, HW⟩ : ∃ W, W = ((w7.alloc (.cells #[.int .i64 0, .int .i64 0, .slice none 0 0] 24)).setCell ⟨w5.heap.size, 1, none⟩ (.int .u32 1)).setCell ⟨w5.heap.size, 7, none⟩ (.bool false) := ⟨_, rfl⟩
              rw [← HW] at hbW Lc
              have LN_8 := Lib.hid Lc
              have HB_8 := Lib.hid (HB5.out.trans (hbW.mono HB5.out.size))
              have S_8 := Lib.hid (S_4.out.below HB_8.out)
              have KP_8 := Lib.hid (KP_4.out.below HB_8.out)
              have KN_8 := Lib.hid (Kn.ask S_4.out HX0.out (HIN.out.below hbW) HOW.out (fun i hi => Nat.lt_of_lt_of_le (HLT5.out i hi) hbW.size))
              have HWW := Lib.hid HW
              clear HW La Lb Lc Lw hbW LN_7 HBN_7 HB_8 S_4 KP_4 HIN HOW HLT5 HB5
              clear hd
              go_wp2
              go_roundw
              case rel => rw [← HWW.out]; exact ⟨j + 1, b, q, L, A, c, by omega, by omega, by go_num, rfl, S_8.out, FI_4.out, HF_4.out, by omega, by omega, KP_8.out⟩
              case measure => simp [intOf]; omega
            · obtain ⟨sA, sc, rfl, -⟩ := htx
              have La : Lies (w7.alloc (.cells #[.int .i64 k.t, .int .i64 k.n, .slice sA k.x.length sc] 24)) w5.heap.size 55 #[.int .i64 7, .int .u32 (x.e : Int), .int .u32 0, .int .u64 0, .int .u64 0, .int .u32 (x.o : Int), .int .i64 x.s, .bool x.u, .int .i64 0, .slice none 0 0, .slice A2 (askD x).length c2] := LN_7.out.alloc _
              have Lb : Lies ((w7.alloc (.cells #[.int .i64 k.t, .int .i64 k.n, .slice sA k.x.length sc] 24)).setCell ⟨w5.heap.size, 1, none⟩ (.int .u32 1)) w5.heap.size 55 #[.int .i64 7, .int .u32 1, .int .u32 0, .int .u64 0, .int .u64 0, .int .u32 (x.o : Int), .int .i64 x.s, .bool x.u, .int .i64 0, .slice none 0 0, .slice A2 (askD x).length c2] := La.put 1 _
              have hbW : Below w5.heap.size w5 (((w7.alloc (.cells #[.int .i64 k.t, .int .i64 k.n, .slice sA k.x.length sc] 24)).setCell ⟨w5.heap.size, 1, none⟩ (.int .u32 1)).setCell ⟨w5.heap.size, 7, none⟩ (.bool false)) := ((HBN_7.out.alloc HBN_7.out.size _).setCell (p := ⟨w5.heap.size, 1, none⟩) (Nat.le_refl _) _).setCell (p := ⟨w5.heap.size, 7, none⟩) (Nat.le_refl _) _
              have Lc : Lies (((w7.alloc (.cells #[.int .i64 k.t, .int .i64 k.n, .slice sA k.x.length sc] 24)).setCell ⟨w5.heap.size, 1, none⟩ (.int .u32 1)).setCell ⟨w5.heap.size, 7, none⟩ (.bool false)) w5.heap.size 55 #[.int .i64 7, .int .u32 1, .int .u32 0, .int .u64 0, .int .u64 0, .int .u32 (x.o : Int), .int .i64 x.s, .bool false, .int .i64 0, .slice none 0 0, .slice A2 (askD x).length c2] := Lb.put 7 _
              have Lw : Lies (((w7.alloc (.cells #[.int .i64 k.t, .int .i64 k.n, .slice sA k.x.length sc] 24)).setCell ⟨w5.heap.size, 1, none⟩ (.int .u32 1)).setCell ⟨w5.heap.size, 7, none⟩ (.bool false)) w7.heap.size 24 #[.int .i64 k.t, .int .i64 k.n, .slice sA k.x.length sc] := ((Lies.made w7 24 _).other (a := ⟨w5.heap.size, 1, none⟩) (by have := LN_7.out.lt; show w7.heap.size ≠ w5.heap.size; omega) _).other (a := ⟨w5.heap.size, 7, none⟩) (by have := LN_7.out.lt; show w7.heap.size ≠ w5.heap.size; omega) _
              obtain ⟨n0, n1, n2, n3, n4, n5, n6, n7, n8, n9, n10⟩ := La.cells11
              obtain ⟨f0, f1, f2, f3, f4, f5, f6, f7, f8, f9, f10⟩ := La.free11
              obtain ⟨m0, m1, m2, m3, m4, m5, m6, m7, m8, m9, m10⟩ := Lb.cells11
              obtain ⟨p0, p1, p2, p3, p4, p5, p6, p7, p8, p9, p10⟩ := Lb.free11
              obtain ⟨l0, l1, l2⟩ := Lw.cells3
              obtain ⟨W8, HW⟩ : ∃ W, W = ((w7.alloc (.cells #[.int .i64 k.t, .int .i64 k.n, .slice sA k.x.length sc] 24)).setCell ⟨w5.heap.size, 1, none⟩ (.int .u32 1)).setCell ⟨w5.heap.size, 7, none⟩ (.bool false) := ⟨_, rfl⟩
              rw [← HW] at hbW Lc
              have LN_8 := Lib.hid Lc
              have HB_8 := Lib.hid (HB5.out.trans (hbW.mono HB5.out.size))
              have S_8 := Lib.hid (S_4.out.below HB_8.out)
              have KP_8 := Lib.hid (KP_4.out.below HB_8.out)
              have KN_8 := Lib.hid (Kn.ask S_4.out HX0.out (HIN.out.below hbW) HOW.out (fun i hi => Nat.lt_of_lt_of_le (HLT5.out i hi) hbW.size))
              have HWW := Lib.hid HW
              clear HW La Lb Lc Lw hbW LN_7 HBN_7 HB_8 S_4 KP_4 HIN HOW HLT5 HB5
              by_cases h2 : k.t = 2
              · have k6 : (k.t == 2) = true := by simpa using h2
                clear h2
                go_wp2
                go_roundw
                case rel => rw [← HWW.out]; exact ⟨j + 1, b, q, L, A, c, by omega, by omega, by go_num, rfl, S_8.out, FI_4.out, HF_4.out, by omega, by omega, KP_8.out⟩
                case measure => simp [intOf]; omega
              · have k6 : (k.t == 2) = false := beq_eq_false_iff_ne.2 h2
                have FO := forth_one (q := q) S_8.out.inv FI_4.out ⟨x.o, x.s, askD x⟩ HX0.out.o HX0.out.s hk h2
                dsimp only at FO
                have FO' := Lib.hid FO
                clear FO h2
                go_wp2_with fail
                rw [← HWW.out]
                clear HWW n0 n1 n2 n3 n4 n5 n6 n7 n8 n9 n10 f0 f1 f2 f3 f4 f5 f6 f7 f8 f9 f10 m0 m1 m2 m3 m4 m5 m6 m7 m8 m9 m10 p0 p1 p2 p3 p4 p5 p6 p7 p8 p9 p10 l0 l1 l2 k6
                with_reducible refine (cw_effects S_8.out).mono ?_
                rintro e w9 ⟨ve, rfl, hr, hb⟩
                obtain ⟨Ae, ce, rfl, hme, -⟩ := F_row hr
                have S_9 := Lib.hid (S_8.out.below hb)
                have LN_9 := Lib.hid (LN_8.out.below hb LN_8.out.lt)
                have KN_9 := Lib.hid (KN_8.out.below hb)
                have KP_9 := Lib.hid (KP_8.out.below hb)
                clear hr hb S_8 LN_8 KN_8 KP_8
                obtain ⟨n0, n1, n2, n3, n4, n5, n6, n7, n8, n9, n10⟩ := LN_9.out.cells11
                have C := Lib.hid (show Calls Tryz.prog 23 #[.pointer (some ⟨cc, 0, none⟩), .agg #[.int .i64 7, .int .u32 1, .int .u32 0, .int .u64 0, .int .u64 0, .int .u32 (x.o : Int), .int .i64 x.s, .bool false, .int .i64 0, .slice none 0 0, .slice A2 (askD x).length c2]] w9 (CwServe w w9 smR cc b (serveS q (stN 1 x.o x.s false (askD x)))) from kn_serve (ep := 1) S_9.out KN_9.out false (by omega) HX0.out.o HX0.out.s (askD_big HSX.out))
                have HF_10 := Lib.hid ((serve_first S_9.out.inv (stN 1 x.o x.s false (askD x))).trans HF_4.out)
                go_wp2_with fail
                with_reducible refine C.out.mono ?_
                rintro e w10 ⟨b10, v10, he, hO, hv, hs, hg, hf⟩
                have S_10 := Lib.hid hs
                have KN_10 := Lib.hid (KN_9.out.serve hg hf)
                have KP_10 := Lib.hid (KP_9.out.serve S_9.out.at_ hg hf)
                have LN_10 := Lib.hid (far55 LN_9.out S_9.out.at_ hg)
                clear n0 n1 n2 n3 n4 n5 n6 n7 n8 n9 n10 hO hv hs hg hf C S_9 KN_9 LN_9 KP_9
                subst he
                obtain ⟨q10, hq⟩ : ∃ a, (serveS q (stN 1 x.o x.s false (askD x))).q = a := ⟨_, rfl⟩
                rw [hq] at S_10 HF_10 FO'
                clear hq
                obtain ⟨a10, ha⟩ : ∃ a, (serveS q (stN 1 x.o x.s false (askD x))).a = a := ⟨_, rfl⟩
                rw [ha]
                clear ha
                obtain ⟨k1, e1, x3, x4, x5, od, st, un, cd, ky, dt⟩ := a10
                go_wp2_with fail
                with_reducible refine (cw_effects S_10.out).mono ?_
                rintro e w11 ⟨vf, rfl, hr, hb⟩
                obtain ⟨Af, cf, rfl, hmf, -⟩ := F_row hr
                have S_11 := Lib.hid (S_10.out.below hb)
                have LN_11 := Lib.hid (LN_10.out.below hb LN_10.out.lt)
                have KN_11 := Lib.hid (KN_10.out.below hb)
                have KP_11 := Lib.hid (KP_10.out.below hb)
                clear hr hb S_10 LN_10 KN_10 KP_10
                obtain ⟨hn10, hfo⟩ := FO'.out
                clear FO'
                rcases hfo with ⟨he, hfi⟩ | ⟨he, hfi⟩
                · have g1 : ¬ ((q.E.length : Int) < (q10.E.length : Int)) := by omega
                  have g2 : decide ((q.E.length : Int) < (q10.E.length : Int)) = false := decide_eq_false g1
                  have g3 : decide (q.E.length < q10.E.length) = false := decide_eq_false (by omega)
                  have HFI := Lib.hid hfi
                  clear hfi
                  go_wp2
                  go_roundw
                  case rel => exact ⟨j + 1, b10, q10, L, A, c, by omega, by omega, by go_num, rfl, S_11.out, HFI.out, HF_10.out, by omega, by omega, KP_11.out⟩
                  case measure => simp [intOf]; omega
                · have g1 : ((q.E.length : Int) < (q10.E.length : Int)) := by omega
                  have g2 : decide ((q.E.length : Int) < (q10.E.length : Int)) = true := decide_eq_true g1
                  have g3 : decide (q.E.length < q10.E.length) = true := decide_eq_true (by omega)
                  have HFI := Lib.hid hfi
                  clear hfi
                  obtain ⟨n0, n1, n2, n3, n4, n5, n6, n7, n8, n9, n10⟩ := LN_11.out.cells11
                  have HLS := Lib.hid (show Lies (w11.alloc (.cells #[.int .i64 7, .int .u32 1, .int .u32 0, .int .u64 0, .int .u64 0, .int .u32 (x.o : Int), .int .i64 x.s, .bool false, .int .i64 0, .slice none 0 0, .slice A2 (askD x).length c2] 55)) w11.heap.size 55 (encN ⟨x.o, x.s, askD x, A2, c2⟩).toArray from Lies.made w11 55 _)
                  have HKP := Lib.hid (KP_11.out.below (Fe.below1 w11 (.cells #[.int .i64 7, .int .u32 1, .int .u32 0, .int .u64 0, .int .u64 0, .int .u32 (x.o : Int), .int .i64 x.s, .bool false, .int .i64 0, .slice none 0 0, .slice A2 (askD x).length c2] 55)))
                  have HRW := Lib.hid HKP.out.row
                  have HLM : Hid (L.length ≤ 100000) := Lib.hid (by omega)
                  have HZ : Hid (w.heap.size ≤ (w11.alloc (.cells #[.int .i64 7, .int .u32 1, .int .u32 0, .int .u64 0, .int .u64 0, .int .u32 (x.o : Int), .int .i64 x.s, .bool false, .int .i64 0, .slice none 0 0, .slice A2 (askD x).length c2] 55)).heap.size) := Lib.hid (S_11.out.alloc _).bel.size
                  go_wp2_with (first
                    | ((with_reducible refine wpl_appD (some 85) _ _ _ (.tmp 82) (.tmp 84) w.heap.size (.slice A L.length c) L w11.heap.size ⟨x.o, x.s, askD x, A2, c2⟩ ?hs ?hx HRW.out HLS.out HLM.out HZ.out ?_); (case hs => rfl); (case hx => rfl); (intro v12 w12 ho hg hbk); (obtain ⟨A12, c12, rfl, -, -⟩ := N_row ho); (have HO12 := Lib.hid ho); (have HG12 := Lib.hid hg); (have HK12 := Lib.hid hbk); (clear ho hg hbk)))
                  have hSA := S_11.out.alloc (.cells #[.int .i64 7, .int .u32 1, .int .u32 0, .int .u64 0, .int .u64 0, .int .u32 (x.o : Int), .int .i64 x.s, .bool false, .int .i64 0, .slice none 0 0, .slice A2 (askD x).length c2] 55)
                  have hKA := KN_11.out.below (Fe.below1 w11 (.cells #[.int .i64 7, .int .u32 1, .int .u32 0, .int .u64 0, .int .u64 0, .int .u32 (x.o : Int), .int .i64 x.s, .bool false, .int .i64 0, .slice none 0 0, .slice A2 (askD x).length c2] 55))
                  obtain ⟨hk12, hc12⟩ := Kept.snoc (n := ⟨x.o, x.s, askD x, A2, c2⟩) HKP.out hKA HNE.out hSA.at_ HO12.out HG12.out HK12.out
                  have S_12 : Hid (CW w w12 smR cc b10 q10) := Lib.hid ⟨hSA.bel.grown HG12.out hSA.bel.size (fun k hk => (St.OwnE.block HRW.out k hk).1), hSA.c, hc12, hSA.inv, hSA.new⟩
                  have KP_12 := Lib.hid hk12
                  clear hSA hKA hk12 hc12
                  go_wp2
                  go_roundw
                  case rel => exact ⟨j + 1, b10, q10, L ++ [⟨x.o, x.s, askD x, A2, c2⟩], A12, c12, by omega, by omega, by go_num, by simp, S_12.out, by rw [List.map_append]; exact HFI.out, HF_10.out, by omega, by simp; omega, KP_12.out⟩
                  case measure => simp [intOf]; omega
          · have h3 : decide ((j : Int) < 60) = false := by simp; omega
            have hlt2 : (j : Int) < (n : Int) := by omega
            go_wp2
            go_meet
            exact ⟨b, q, L, A, c, rfl, S_4.out, FI_4.out, HF_4.out, by omega, by omega, KP_4.out⟩
        · have hlt3 : decide ((j : Int) < (n : Int)) = false := by simp; omega
          go_wp2
          go_meet
          exact ⟨b, q, L, A, c, rfl, S_4.out, FI_4.out, HF_4.out, by omega, by omega, KP_4.out⟩
    clear KP_0 S_4 S_3 S_2
    obtain ⟨b, q, L, A, c, rfl, hS, hFI, hF, hqn, hll, hK⟩ := hcut
    have S_5 := Lib.hid hS
    have FI_5 := Lib.hid hFI
    have HF_5 := Lib.hid hF
    have KP_5 := Lib.hid hK
    clear hS hFI hF hK
    have h60 : (L.length : Int) ≤ 60 := by omega
    go_wp2_with fail
    go_loopw [14] (fun v wr => UbR w cc (.slice (some ⟨g5, 0, none⟩) 2 c5) (.slice (some ⟨g6, 0, none⟩) 2 c6) (.slice A L.length c) L v wr) (fun i _ => (intOf i + 1).toNat)
    case atStart => exact ⟨L.length, b, q, Nat.le_refl _, rfl, S_5.out, by rw [List.take_of_length_le (by simp)]; exact FI_5.out.ui, by rw [List.take_of_length_le (by simp)]; exact FI_5.out.di, by have := FI_5.out.ep; omega, by omega, HF_5.out, KP_5.out⟩
    case round =>
      clear FI_5 HF_5 KP_5 S_5
      obtain ⟨m, b, q, hm, rfl, hS, hU, hD, hep, hqm, hF, hK⟩ := hrel
      have S_6 := Lib.hid hS
      have HU := Lib.hid hU
      have HD := Lib.hid hD
      have HF_6 := Lib.hid hF
      have KP_6 := Lib.hid hK
      clear hS hU hD hF hK
      cases m with
      | zero =>
        rw [List.take_zero] at HU
        obtain ⟨u1, u2, u3, u4⟩ := und_all S_6.out.inv HF_6.out HU.out
        have U1 := Lib.hid u1
        have U2 := Lib.hid u2
        have U3 := Lib.hid u3
        have U4 := Lib.hid u4
        clear u1 u2 u3 u4 HU HD
        have e2 : decide ((0 : Int) ≤ ((0 : Nat) : Int) - 1) = false := by decide
        rw [show ((0 : Nat) : Int) - 1 = -1 from rfl]
        go_wp2_with fail
        with_reducible refine (cw_accts S_6.out).mono ?_
        rintro e w7 ⟨vb, rfl, hr, hb⟩
        rw [U2.out] at hr
        have S_7 := Lib.hid (S_6.out.below hb)
        have KP_7 := Lib.hid (KP_6.out.below hb)
        have RB_7 := Lib.hid hr
        clear hr hb S_6 KP_6
        obtain ⟨A4, c4, hvb, -, hk4⟩ := A_row RB_7.out
        obtain ⟨g4, rfl, -⟩ := hk4 0 (by decide)
        have hvb : vb = .slice (some ⟨g4, 0, none⟩) 2 c4 := hvb
        subst hvb
        clear hk4
        go_wp2_with fail
        go_loopw [17, 19] (fun h v wr => UcR w7 h v wr) (fun _ i _ => 3 - (intOf i).toNat)
        case atStart => exact ⟨0, by omega, rfl, rfl, Below.refl _ _⟩
        case round =>
          obtain ⟨k2, hk, rfl, rfl, hbr⟩ := hrel
          have HBR := Lib.hid hbr
          clear hbr
          by_cases hk2 : k2 < 2
          · have e1 : (k2 : Int) < 2 := by omega
            have e2 : decide ((k2 : Int) < 2) = true := by simp; omega
            have hls : k2 < smA.length := hk2
            obtain ⟨BA, hBA⟩ := KP_7.out.a
            obtain ⟨A', c', e', -, hc⟩ := A_row (RB_7.out.below HBR.out)
            injection e' with e' t1 t2
            clear t1 t2
            subst e'
            obtain ⟨gx, ex, y0, y1, y2⟩ := hc k2 hls
            injection ex with ex
            injection ex with ex
            subst ex
            clear hc
            obtain ⟨A', c', e', -, hc⟩ := A_row (hBA.below HBR.out)
            injection e' with e' t1 t2
            clear t1 t2
            subst e'
            obtain ⟨gx, ex, z0, z1, z2⟩ := hc k2 hls
            injection ex with ex
            injection ex with ex
            subst ex
            clear hc
            have hz : smA[k2].h = 0 := by rcases (by omega : k2 = 0 ∨ k2 = 1) with rfl | rfl <;> rfl
            rw [hz] at y2
            obtain ⟨r, hr⟩ : ∃ r, smA[k2].m = r := ⟨_, rfl⟩
            rw [hr] at y1 z1
            have d0 : (r == r) = true := by simp
            have d1 : (r != r) = false := by simp
            clear hr hz y0 z0 z2 hBA
            go_wp2_with fail
            refine wp_region_noPanic ?_
            refine wp_region_held_drew (S := fun W => W.cell? ⟨g4, k2 * 3 + 1, none⟩ = some (.int .i64 r) ∧ W.cell? ⟨g6, k2 * 3 + 1, none⟩ = some (.int .i64 r) ∧ W.cell? ⟨g4, k2 * 3 + 2, none⟩ = some (.int .i64 0)) (by kernel_rfl) (⟨y1, z1, y2⟩) (fun hH0 => ?_)
            refine Fe.any_take 0 119 ?vt2 rfl rfl (by kernel_rfl) (by kernel_rfl) (by kernel_rfl) (fun _ _ _ h => h) (by rfl) ?ht2 hH0 ?rt2
            case ht2 => ((intro W hSw); obtain ⟨q0, q1, q2⟩ := hSw; go_simp; (try with_reducible rfl))
            try simp only [Act.put, List.setIfInBounds_toArray, List.set_cons_zero, List.set_cons_succ]
            refine Fe.any_take 1 120 ?vt3 rfl rfl (by kernel_rfl) (by kernel_rfl) (by kernel_rfl) (fun _ _ _ h => h) (by rfl) ?ht3 hH0 ?rt3
            case ht3 => ((intro W hSw); obtain ⟨q0, q1, q2⟩ := hSw; go_simp; (try with_reducible rfl))
            try simp only [Act.put, List.setIfInBounds_toArray, List.set_cons_zero, List.set_cons_succ]
            refine Fe.any_take 2 121 ?vt4 rfl rfl (by kernel_rfl) (by kernel_rfl) (by kernel_rfl) (fun _ _ _ h => h) (by rfl) ?ht4 hH0 ?rt4
            case ht4 => ((intro W hSw); obtain ⟨q0, q1, q2⟩ := hSw; go_simp; (try with_reducible rfl))
            try simp only [Act.put, List.setIfInBounds_toArray, List.set_cons_zero, List.set_cons_succ]
            refine Fe.any_take 3 122 ?vt5 rfl rfl (by kernel_rfl) (by kernel_rfl) (by kernel_rfl) (fun _ _ _ h => h) (by rfl) ?ht5 hH0 ?rt5
            case ht5 => ((intro W hSw); obtain ⟨q0, q1, q2⟩ := hSw; go_simp; (try with_reducible rfl))
            try simp only [Act.put, List.setIfInBounds_toArray, List.set_cons_zero, List.set_cons_succ]
            refine Fe.any_take 4 123 ?vt6 rfl rfl (by kernel_rfl) (by kernel_rfl) (by kernel_rfl) (fun _ _ _ h => h) (by rfl) ?ht6 hH0 ?rt6
            case ht6 => ((intro W hSw); obtain ⟨q0, q1, q2⟩ := hSw; go_simp; (try with_reducible rfl))
            try simp only [Act.put, List.setIfInBounds_toArray, List.set_cons_zero, List.set_cons_succ]
            refine Fe.any_take 5 124 ?vt7 rfl rfl (by kernel_rfl) (by kernel_rfl) (by kernel_rfl) (fun _ _ _ h => h) (by rfl) ?ht7 hH0 ?rt7
            case ht7 => ((intro W hSw); obtain ⟨q0, q1, q2⟩ := hSw; go_simp; (try with_reducible rfl))
            try simp only [Act.put, List.setIfInBounds_toArray, List.set_cons_zero, List.set_cons_succ]
            refine Fe.any_take 6 125 ?vt8 rfl rfl (by kernel_rfl) (by kernel_rfl) (by kernel_rfl) (fun _ _ _ h => h) (by rfl) ?ht8 hH0 ?rt8
            case ht8 => ((intro W hSw); obtain ⟨q0, q1, q2⟩ := hSw; go_simp; (try with_reducible rfl))
            try simp only [Act.put, List.setIfInBounds_toArray, List.set_cons_zero, List.set_cons_succ]
            refine Fe.any_take 7 126 ?vt9 rfl rfl (by kernel_rfl) (by kernel_rfl) (by kernel_rfl) (fun _ _ _ h => h) (by rfl) ?ht9 hH0 ?rt9
            case ht9 => ((intro W hSw); obtain ⟨q0, q1, q2⟩ := hSw; go_simp; (try with_reducible rfl))
            try simp only [Act.put, List.setIfInBounds_toArray, List.set_cons_zero, List.set_cons_succ]
            refine Fe.any_take 8 127 ?vt10 rfl rfl (by kernel_rfl) (by kernel_rfl) (by kernel_rfl) (fun _ _ _ h => h) (by rfl) ?ht10 hH0 ?rt10
            case ht10 => ((intro W hSw); obtain ⟨q0, q1, q2⟩ := hSw; go_simp; (try with_reducible rfl))
            try simp only [Act.put, List.setIfInBounds_toArray, List.set_cons_zero, List.set_cons_succ]
            refine Fe.any_take 9 128 ?vt11 rfl rfl (by kernel_rfl) (by kernel_rfl) (by kernel_rfl) (fun _ _ _ h => h) (by rfl) ?ht11 hH0 ?rt11
            case ht11 => ((intro W hSw); obtain ⟨q0, q1, q2⟩ := hSw; go_simp; (try with_reducible rfl))
            try simp only [Act.put, List.setIfInBounds_toArray, List.set_cons_zero, List.set_cons_succ]
            refine Fe.any_take 10 129 ?vt12 rfl rfl (by kernel_rfl) (by kernel_rfl) (by kernel_rfl) (fun _ _ _ h => h) (by rfl) ?ht12 hH0 ?rt12
            case ht12 => ((intro W hSw); obtain ⟨q0, q1, q2⟩ := hSw; go_simp; (try with_reducible rfl))
            try simp only [Act.put, List.setIfInBounds_toArray, List.set_cons_zero, List.set_cons_succ]
            clear hH0
            refine wpAnyH_done (by kernel_rfl) ?_ _
            refine NoPanic.normal ?_
            have y3 : wr.drew.cell? ⟨g4, k2 * 3 + 2, none⟩ = some (.int .i64 0) := y2
            go_wp2
            go_roundw
            case rel => exact ⟨k2 + 1, by omega, by go_num, rfl, HBR.out.drew⟩
            case measure => simp [intOf]; omega
          · have e1 : ¬ (k2 : Int) < 2 := by omega
            have e2 : decide ((k2 : Int) < 2) = false := by simp; omega
            have S_8 := Lib.hid (S_7.out.below HBR.out)
            have KP_8 := Lib.hid (KP_7.out.below HBR.out)
            go_wp2_with fail
            with_reducible refine (cw_goods S_8.out).mono ?_
            rintro e w9 ⟨vh, rfl, hr, hb⟩
            rw [U1.out] at hr
            have S_9 := Lib.hid (S_8.out.below hb)
            have RH := Lib.hid hr
            obtain ⟨BG, hBG⟩ := (KP_8.out.below hb).g
            have CG := Lib.hid (smG_any _ _ _ _ _ _ w9 RH.out hBG)
            clear hr hb hBG S_8 KP_8
            go_wp2_with fail
            with_reducible refine CG.out.mono ?_
            rintro e w10 ⟨hb, t, rfl, ht⟩
            obtain rfl := ht (by first | trivial | rfl)
            have S_10 := Lib.hid (S_9.out.below hb)
            clear hb ht CG S_9
            have R0 := Lib.hid (cw_room S_10.out 0)
            have R1 := Lib.hid (cw_room S_10.out 1)
            rw [U3.out] at R0
            rw [U4.out] at R1
            go_wp2_with fail
            with_reducible refine R0.out.mono ?_
            rintro e _ ⟨rfl, rfl⟩
            go_wp2_with fail
            with_reducible refine R1.out.mono ?_
            rintro e _ ⟨rfl, rfl⟩
            go_wp2_with fail
            with_reducible refine (known_any _).mono ?_
            rintro e w90 ⟨rfl, hb⟩
            have S_90 := Lib.hid (S_10.out.below hb)
            clear hb
            go_wp2
            go_ret
            exact ⟨rfl, S_90.out.bel⟩
      | succ m =>
        have hlt : m < L.length := hm
        have hv : (((m + 1 : Nat) : Int) - 1) = (m : Int) := by omega
        rw [hv]
        clear hv
        have e1 : (0 : Int) ≤ (m : Int) := by omega
        have e2 : decide ((0 : Int) ≤ (m : Int)) = true := by simp
        have e3 : (m : Int) < (L.length : Int) := by omega
        have hlm : m < (L.map Nn.d).length := by rw [List.length_map]; exact hlt
        rw [take_more hlm, List.getElem_map] at HU HD
        obtain ⟨A', c', e', -, hc⟩ := N_row KP_6.out.row
        injection e' with e' t1 t2
        clear t1 t2
        subst e'
        obtain ⟨ge, rfl, y0, y1, y2, y3, y4, y5, y6, y7, y8, y9, y10⟩ := hc m hlt
        clear hc
        have hKN := KP_6.out.kn L[m] (List.getElem_mem hlt)
        obtain ⟨nn, hnn⟩ : ∃ n, L[m] = n := ⟨_, rfl⟩
        rw [hnn] at y5 y6 y10 HU HD hKN
        clear hnn
        obtain ⟨no, ns, nl, nA, nc⟩ := nn
        dsimp only at y5 y6 y10 hKN
        obtain ⟨ho, hs64, hrq, -⟩ := HD.out.ok (Nn.d ⟨no, ns, nl, nA, nc⟩) (by simp)
        have hnl : nl.length ≤ 200000 := by have := (Fe.req_small hrq).1; show nl.length ≤ 200000; have h' : nl.length ≤ 255 := this; omega
        have BO := Lib.hid (back_one S_6.out.inv (Nn.d ⟨no, ns, nl, nA, nc⟩) HU.out HD.out hep (by omega))
        have BO : Hid ((serveS q (stN 2 no ns true nl)).a.kind = 8 ∧ UI (serveS q (stN 2 no ns true nl)).q ((L.map Nn.d).take m) ∧ DI (serveS q (stN 2 no ns true nl)).q ((L.map Nn.d).take m) ∧ (serveS q (stN 2 no ns true nl)).q.f.ep = 2 ∧ (serveS q (stN 2 no ns true nl)).q.f.n = q.f.n + 1) := BO
        obtain ⟨w7, HW, hs7, hk7, hn7⟩ : ∃ W, W = wr.alloc (.cells #[.int .i64 7, .int .u32 2, .int .u32 0, .int .u64 0, .int .u64 0, .int .u32 (no : Int), .int .i64 ns, .bool true, .int .i64 0, .slice none 0 0, .slice nA nl.length nc] 55) ∧ CW w W smR cc b q ∧ Kept W b w.heap.size (.slice (some ⟨ge, 0, none⟩) L.length c) (.slice (some ⟨g5, 0, none⟩) 2 c5) (.slice (some ⟨g6, 0, none⟩) 2 c6) L ∧ Kn W b nA nc nl := ⟨_, rfl, S_6.out.alloc _, KP_6.out.below (Fe.below1 _ _), hKN.below (Fe.below1 _ _)⟩
        have S_7 := Lib.hid hs7
        have KP_7 := Lib.hid hk7
        have C := Lib.hid (show Calls Tryz.prog 23 #[.pointer (some ⟨cc, 0, none⟩), .agg #[.int .i64 7, .int .u32 2, .int .u32 0, .int .u64 0, .int .u64 0, .int .u32 (no : Int), .int .i64 ns, .bool true, .int .i64 0, .slice none 0 0, .slice nA nl.length nc]] w7 (CwServe w w7 smR cc b (serveS q (stN 2 no ns true nl))) from kn_serve (ep := 2) hs7 hn7 true (by omega) ho hs64 hnl)
        have HF_8 := Lib.hid ((serve_first S_7.out.inv (stN 2 no ns true nl)).trans HF_6.out)
        clear hs7 hk7 hn7 hKN HU HD S_6 KP_6 HF_6 ho hs64 hrq hnl
        go_wp2_with fail
        rw [← HW]
        clear HW y0 y1 y2 y3 y4 y5 y6 y7 y8 y9 y10
        with_reducible refine C.out.mono ?_
        rintro e w8 ⟨b8, v8, he, hO, hv, hs, hg, hf⟩
        have S_8 := Lib.hid hs
        have KP_8 := Lib.hid (KP_7.out.serve S_7.out.at_ hg hf)
        clear hv hs hg hf C S_7 KP_7
        obtain ⟨q8, hq⟩ : ∃ a, (serveS q (stN 2 no ns true nl)).q = a := ⟨_, rfl⟩
        rw [hq] at S_8 HF_8 BO
        clear hq
        obtain ⟨a8, ha⟩ : ∃ a, (serveS q (stN 2 no ns true nl)).a = a := ⟨_, rfl⟩
        rw [ha] at he hO BO
        clear ha
        obtain ⟨k1, e1', x3, x4, x5, od, st, un, cd, ky, dt⟩ := a8
        obtain ⟨h8, hU8, hD8, hep8, hn8⟩ := BO.out
        have h8 : k1 = 8 := h8
        subst h8
        dsimp only at he hO
        obtain ⟨A8, c8, rfl, -, -⟩ := hO.slice
        subst he
        have HU8 := Lib.hid hU8
        have HD8 := Lib.hid hD8
        clear hO hU8 hD8 BO
        go_wp2
        go_roundw
        case rel => exact ⟨m, b8, q8, by omega, by go_num, S_8.out.alloc _, HU8.out, HD8.out, by omega, by omega, HF_8.out, KP_8.out.below (Fe.below1 _ _)⟩
        case measure => simp [intOf] <;> omega
  · clear HT
    go_wp2_with fail
    with_reducible refine (known_any _).mono ?_
    rintro e w90 ⟨rfl, hb⟩
    have S_90 := Lib.hid (S_2.out.below hb)
    clear hb
    go_wp2
    go_ret
    exact ⟨rfl, S_90.out.bel⟩

end Go.Proofs.YtpbclmnhkmcknaaGreat
