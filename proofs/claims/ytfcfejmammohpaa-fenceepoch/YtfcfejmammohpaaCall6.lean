/-
  A call of a new step: act 1, verdict 2, good false.
-/
import Derived.Test.YtfcfejmammohpaaCallN
import Derived.Deep.RegionHeld3
import Derived.Deep.DeepCutAuto
import Derived.Deep.CutRange
import Derived.Deep.CutBlock
namespace Go.Proofs.Ytfcfejmammohpaa
open Go.RowKit
set_option maxRecDepth 100000
set_option linter.unusedVariables false
set_option linter.unusedSimpArgs false

set_option maxHeartbeats 16000000 in
theorem calls_6 (w0 : World) (gs : Nat) (s : St) (e od : Nat) (st : Int) (un : Bool) (Ad : Option Addr) (cd : Nat) (gd : Bool) (l : List Nat) (w : World) (E O : Nat) (S : Int) (hM : SM w0 gs s w) (hI : s.inv) (he : e < 4294967296) (ho : od < 4294967296) (hB : Bys w0 Ad l.length l) (hc : l.length ≤ cd) (hcm : cd ≤ maxLen) (hA : Ad = none → cd = 0) (hn : s.n < 200) (hb1 : s.nt < 200 ∧ s.nd < 200 ∧ s.no < 200) (hE : (1 + (e : Int) % 6) = (E : Int)) (hO : (1 + (od : Int) % 4) = (O : Int)) (hS : wrap64 ((IntKind.u64.wrap st).tmod 3) = S) (hq : Rq E O S l) (hgd : gd = false) (hs : ¬ E < s.ep) (hh : has s.n (fun i => (s.Y i).k) (kn O S un) = false) (hact : actN s.n (fun i => (s.Y i).k) (stN E O S un l) = 1) :
    Calls Try.prog 51 #[.pointer (some ⟨gs, 0, none⟩), .agg #[.int .u32 (e : Int), .int .u32 (od : Int), .int .i64 st, .bool un, .slice Ad l.length cd, .bool gd]] w (CallPost w0 gs s) := by
  subst hgd
  obtain ⟨ep, A, n, c, Y, Da, nd, dc, D, Ta, nt, tc, U, Oa, no, oc, Ov⟩ := s
  have hI2 : Inv ep n (fun i => (Y i).k) nd (fun i => (D i).k) nt (fun i => (U i).k) no (fun i => (Ov i).k) := hI
  dsimp only at hn hb1 hs hh hact
  obtain ⟨kp, hask⟩ : ∃ kp, askS ep n (fun i => (Y i).k) (stN E O S un l) = ⟨1, kp, 0⟩ := ⟨kz, (ask_new (un := un) hI2 hq hs hh).trans (by rw [hact])⟩
  have hep : ep < 4294967296 := by have := hI2.ep; omega
  have hEb : E < 4294967296 := by have := hq.e2; omega
  have hOb : O < 4294967296 := by have := hq.o2; omega
  have SM1 : Hid (SM w0 gs (⟨ep, A, n, c, Y, Da, nd, dc, D, Ta, nt, tc, U, Oa, no, oc, Ov⟩ : St) ((w.alloc (.cells #[.int .u32 (e : Int), .int .u32 (od : Int), .int .i64 st, .bool un, .slice Ad l.length cd, .bool false] 77)).alloc (.cells #[.int .i64 7, .int .u32 (1 + (e : Int) % 6), .int .u32 0, .int .u64 0, .int .u64 0, .int .u32 (1 + (od : Int) % 4), .int .i64 (wrap64 ((IntKind.u64.wrap st).tmod 3)), .bool un, .int .i64 0, .slice none 0 0, .slice Ad l.length cd] 29))) := Lib.hid ((hM.alloc _).alloc _)
  have LS1 : Hid (Lies ((w.alloc (.cells #[.int .u32 (e : Int), .int .u32 (od : Int), .int .i64 st, .bool un, .slice Ad l.length cd, .bool false] 77)).alloc (.cells #[.int .i64 7, .int .u32 (1 + (e : Int) % 6), .int .u32 0, .int .u64 0, .int .u64 0, .int .u32 (1 + (od : Int) % 4), .int .i64 (wrap64 ((IntKind.u64.wrap st).tmod 3)), .bool un, .int .i64 0, .slice none 0 0, .slice Ad l.length cd] 29)) gs 62 #[.int .u32 (ep : Int), .slice A n c, .slice Da nd dc, .slice Ta nt tc, .slice Oa no oc, .bool false]) := Lib.hid SM1.out.box
  have LC1 : Hid (Lies ((w.alloc (.cells #[.int .u32 (e : Int), .int .u32 (od : Int), .int .i64 st, .bool un, .slice Ad l.length cd, .bool false] 77)).alloc (.cells #[.int .i64 7, .int .u32 (1 + (e : Int) % 6), .int .u32 0, .int .u64 0, .int .u64 0, .int .u32 (1 + (od : Int) % 4), .int .i64 (wrap64 ((IntKind.u64.wrap st).tmod 3)), .bool un, .int .i64 0, .slice none 0 0, .slice Ad l.length cd] 29)) w.heap.size 77 #[.int .u32 (e : Int), .int .u32 (od : Int), .int .i64 st, .bool un, .slice Ad l.length cd, .bool false]) := Lib.hid ((Lies.made w 77 #[.int .u32 (e : Int), .int .u32 (od : Int), .int .i64 st, .bool un, .slice Ad l.length cd, .bool false]).alloc _)
  have LN1 : Hid (Lies ((w.alloc (.cells #[.int .u32 (e : Int), .int .u32 (od : Int), .int .i64 st, .bool un, .slice Ad l.length cd, .bool false] 77)).alloc (.cells #[.int .i64 7, .int .u32 (1 + (e : Int) % 6), .int .u32 0, .int .u64 0, .int .u64 0, .int .u32 (1 + (od : Int) % 4), .int .i64 (wrap64 ((IntKind.u64.wrap st).tmod 3)), .bool un, .int .i64 0, .slice none 0 0, .slice Ad l.length cd] 29)) (w.heap.size + 1) 29 #[.int .i64 7, .int .u32 (1 + (e : Int) % 6), .int .u32 0, .int .u64 0, .int .u64 0, .int .u32 (1 + (od : Int) % 4), .int .i64 (wrap64 ((IntKind.u64.wrap st).tmod 3)), .bool un, .int .i64 0, .slice none 0 0, .slice Ad l.length cd]) := Lib.hid (Lies.made2 w (.cells #[.int .u32 (e : Int), .int .u32 (od : Int), .int .i64 st, .bool un, .slice Ad l.length cd, .bool false] 77) 29 #[.int .i64 7, .int .u32 (1 + (e : Int) % 6), .int .u32 0, .int .u64 0, .int .u64 0, .int .u32 (1 + (od : Int) % 4), .int .i64 (wrap64 ((IntKind.u64.wrap st).tmod 3)), .bool un, .int .i64 0, .slice none 0 0, .slice Ad l.length cd])
  have HF1 : Hid (FV ((w.alloc (.cells #[.int .u32 (e : Int), .int .u32 (od : Int), .int .i64 st, .bool un, .slice Ad l.length cd, .bool false] 77)).alloc (.cells #[.int .i64 7, .int .u32 (1 + (e : Int) % 6), .int .u32 0, .int .u64 0, .int .u64 0, .int .u32 (1 + (od : Int) % 4), .int .i64 (wrap64 ((IntKind.u64.wrap st).tmod 3)), .bool un, .int .i64 0, .slice none 0 0, .slice Ad l.length cd] 29)) A n c (fun i => (Y i).k)) := Lib.hid SM1.out.fv
  have HN1 : Hid (EntV ((w.alloc (.cells #[.int .u32 (e : Int), .int .u32 (od : Int), .int .i64 st, .bool un, .slice Ad l.length cd, .bool false] 77)).alloc (.cells #[.int .i64 7, .int .u32 (1 + (e : Int) % 6), .int .u32 0, .int .u64 0, .int .u64 0, .int .u32 (1 + (od : Int) % 4), .int .i64 (wrap64 ((IntKind.u64.wrap st).tmod 3)), .bool un, .int .i64 0, .slice none 0 0, .slice Ad l.length cd] 29)) (stN E O S un l) none Ad 0 cd) := Lib.hid (entV_st (hB.below (by rw [hM.hg]; exact SM1.out.bel)) hc hcm hA hEb hOb hq.s64)
  have HGN := Lib.hid (show gs < w.heap.size from hM.lt)
  obtain ⟨m0, m1, m2, m3, m4, m5⟩ := LS1.out.cells6
  obtain ⟨o0, o1, o2, o3, o4, o5⟩ := LC1.out.cells6
  have HE := Lib.hid hE
  have HO := Lib.hid hO
  have HS := Lib.hid hS
  have HQ := Lib.hid hq
  have HI := Lib.hid hI2
  have HASK := Lib.hid hask
  have HNN := Lib.hid (And.intro hn hb1)
  have H64 := Lib.hid hq.s64
  have HEP := Lib.hid hep
  have HNO := Lib.hid (no_over hI2 hq hh hact)
  have hmay : mayB (actN n (fun i => (Y i).k) (stN E O S un l)) 2 = true := by rw [hact]; decide
  have KE0 := Lib.hid (keep_new hI2 hq hs hh hn 2 [nt] (by simp) hmay)
  have HIK := Lib.hid (hI2.keep hq hs hh hn 2 [nt] (by simp) hmay false (by rw [hact]; simp) ⟨O, S, un, l, 0, []⟩ ⟨rfl, rfl, rfl⟩)
  have HFN := Lib.hid (find_new hI2 hh HIK.out.ok)
  have HNT := Lib.hid (show nt < 256 by have := hb1.1; omega)
  have HNS := Lib.hid hs
  have HON := Lib.hid hOb
  clear hE hO hS hq hI hI2 hM hB hc hcm hA hask hep hEb hOb hn hb1
  go_enter Try.func51, Try.ntmps51
  go_wp2_with fail
  clear m0 m1 m2 m3 m4 m5 o0 o1 o2 o3 o4 o5
  obtain ⟨x1, hx1⟩ : ∃ z, z = ((w.alloc (.cells #[.int .u32 (e : Int), .int .u32 (od : Int), .int .i64 st, .bool un, .slice Ad l.length cd, .bool false] 77)).alloc (.cells #[.int .i64 7, .int .u32 (1 + (e : Int) % 6), .int .u32 0, .int .u64 0, .int .u64 0, .int .u32 (1 + (od : Int) % 4), .int .i64 (wrap64 ((IntKind.u64.wrap st).tmod 3)), .bool un, .int .i64 0, .slice none 0 0, .slice Ad l.length cd] 29)) := ⟨_, rfl⟩
  rw [← hx1]
  rw [← hx1] at SM1 LS1 LC1 LN1 HF1 HN1
  rw [HE.out, HO.out, HS.out]
  rw [HE.out, HO.out, HS.out] at LN1
  clear hx1
  obtain ⟨gC, hgC⟩ : ∃ g, g = w.heap.size := ⟨_, rfl⟩
  rw [← hgC]
  rw [← hgC] at LC1 LN1 HGN
  clear hgC HE HO HS he ho
  obtain ⟨ld, hld⟩ : ∃ k, l.length = k := ⟨_, rfl⟩
  rw [hld]
  rw [hld] at LC1 LN1
  have HLD := Lib.hid hld
  clear hld
  skip
  have D3 := Lib.hid (fun W (hb : Below x1.heap.size x1 W) => ask_st ep A n c (fun i => (Y i).k) E O S un Ad ld cd l W (HF1.out.below hb) (HN1.out.below hb) HLD.out H64.out HEP.out 1 0 kp (by rw [HASK.out]; rfl) (by rw [HASK.out]) (by rw [HASK.out]; rfl))
  have Z := Lib.hid (Below.refl x1.heap.size x1)
  obtain ⟨u0, u1, -, -, -, -⟩ := LS1.out.cells6
  obtain ⟨v0, v1, v2, v3, v4, v5, v6, v7, v8, v9, v10⟩ := LN1.out.cells11
  have hz1 : x1.heap.size ≠ gs := Nat.ne_of_gt LS1.out.lt
  have hz2 : x1.heap.size ≠ gC + 1 := Nat.ne_of_gt LN1.out.lt
  have GB := Lib.hid (show gs + 1 ≤ x1.heap.size from LS1.out.lt)
  have GB2 : Hid (gs + 1 ≤ (x1.alloc (.cells #[.int .u32 0, .int .i64 0, .bool false, .slice none 0 0, .int .i64 0, .slice none 0 0] 34)).heap.size) := Lib.hid (Nat.le_trans GB.out (by simp))
  go_cut [6, 7, 8] (fun s6 s7 s8 W => s6 = .int .i64 1 ∧ s8 = .int .i64 0 ∧ ∃ g bA bd bB be, s7 = .pointer (some ⟨g, 0, none⟩) ∧ Lies W g 34 #[.int .u32 (kp.o : Int), .int .i64 kp.s, .bool kp.u, .slice bA kp.a.length bd, .int .i64 kp.c, .slice bB kp.r.length be] ∧ Own W (gs + 1) (.slice bA kp.a.length bd) kp.a ∧ Own W (gs + 1) (.slice bB kp.r.length be) kp.r ∧ x1.heap.size ≤ g ∧ Below x1.heap.size x1 W)
  case first =>
    as_aux_lemma =>
      go_region_held3 (fun W => W.cell? ⟨gs, 0, none⟩ = some (.int .u32 (ep : Int)) ∧ W.cell? ⟨gs, 1, none⟩ = some (.slice A n c) ∧ W.cell? ⟨gC + 1, 0, none⟩ = some (.int .i64 7) ∧ W.cell? ⟨gC + 1, 1, none⟩ = some (.int .u32 (E : Int)) ∧ W.cell? ⟨gC + 1, 2, none⟩ = some (.int .u32 0) ∧ W.cell? ⟨gC + 1, 3, none⟩ = some (.int .u64 0) ∧ W.cell? ⟨gC + 1, 4, none⟩ = some (.int .u64 0) ∧ W.cell? ⟨gC + 1, 5, none⟩ = some (.int .u32 (O : Int)) ∧ W.cell? ⟨gC + 1, 6, none⟩ = some (.int .i64 S) ∧ W.cell? ⟨gC + 1, 7, none⟩ = some (.bool un) ∧ W.cell? ⟨gC + 1, 8, none⟩ = some (.int .i64 0) ∧ W.cell? ⟨gC + 1, 9, none⟩ = some (.slice none 0 0) ∧ W.cell? ⟨gC + 1, 10, none⟩ = some (.slice Ad ld cd)) (first | (with_reducible exact ⟨u0, u1, v0, v1, v2, v3, v4, v5, v6, v7, v8, v9, v10⟩) | go_keep)
        (first
        | (go_at_call 14; (with_reducible refine (D3.out x1.drew Z.out.drew).mono ?_); (rintro x wb ⟨bA, bd, bB, be, rfl, oa, ob, hb⟩); (have O1 := Lib.hid (oa.mono GB.out)); (have O2 := Lib.hid (ob.mono GB.out)); (have Z := Lib.hid (Z.out.drew.trans (hb.mono Z.out.size))); (clear u0 u1 v0 v1 v2 v3 v4 v5 v6 v7 v8 v9 v10); (obtain ⟨u0, u1, -, -, -, -⟩ := (Lies.below LS1.out Z.out (Lies.lt LS1.out)).cells6); (obtain ⟨v0, v1, v2, v3, v4, v5, v6, v7, v8, v9, v10⟩ := (Lies.below LN1.out Z.out (Lies.lt LN1.out)).cells11); (have hy1 : wb.heap.size ≠ gs := Nat.ne_of_gt (Nat.lt_of_lt_of_le LS1.out.lt Z.out.size)); (have hy2 : wb.heap.size ≠ gC + 1 := Nat.ne_of_gt (Nat.lt_of_lt_of_le LN1.out.lt Z.out.size)); (clear oa ob hb))
        | (go_at_call 14; (with_reducible refine (D3.out (x1.alloc (.cells #[.int .u32 0, .int .i64 0, .bool false, .slice none 0 0, .int .i64 0, .slice none 0 0] 34)).drew (Z.out.alloc Z.out.size (.cells #[.int .u32 0, .int .i64 0, .bool false, .slice none 0 0, .int .i64 0, .slice none 0 0] 34)).drew).mono ?_); (rintro x wb ⟨bA, bd, bB, be, rfl, oa, ob, hb⟩); (have O1 := Lib.hid (oa.mono GB2.out)); (have O2 := Lib.hid (ob.mono GB2.out)); (have LZ2 := Lib.hid (Lies.below (Lies.drew (Lies.made x1 34 #[.int .u32 0, .int .i64 0, .bool false, .slice none 0 0, .int .i64 0, .slice none 0 0])) hb (Lies.lt (Lies.made x1 34 #[.int .u32 0, .int .i64 0, .bool false, .slice none 0 0, .int .i64 0, .slice none 0 0])))); (have GZ := Lib.hid (Nat.le_refl x1.heap.size)); (obtain ⟨zc0, zc1, zc2, zc3, zc4, zc5⟩ := LZ2.out.cells6); (obtain ⟨zf0, zf1, zf2, zf3, zf4, zf5⟩ := LZ2.out.free6); (have Z := Lib.hid ((Z.out.alloc Z.out.size (.cells #[.int .u32 0, .int .i64 0, .bool false, .slice none 0 0, .int .i64 0, .slice none 0 0] 34)).drew.trans (hb.mono (Z.out.alloc Z.out.size (.cells #[.int .u32 0, .int .i64 0, .bool false, .slice none 0 0, .int .i64 0, .slice none 0 0] 34)).size))); (clear u0 u1 v0 v1 v2 v3 v4 v5 v6 v7 v8 v9 v10); (obtain ⟨u0, u1, -, -, -, -⟩ := (Lies.below LS1.out Z.out (Lies.lt LS1.out)).cells6); (obtain ⟨v0, v1, v2, v3, v4, v5, v6, v7, v8, v9, v10⟩ := (Lies.below LN1.out Z.out (Lies.lt LN1.out)).cells11); (have hy1 : wb.heap.size ≠ gs := Nat.ne_of_gt (Nat.lt_of_lt_of_le LS1.out.lt Z.out.size)); (have hy2 : wb.heap.size ≠ gC + 1 := Nat.ne_of_gt (Nat.lt_of_lt_of_le LN1.out.lt Z.out.size)); (clear oa ob hb)))
      all_goals
        go_wp2_with fail
        go_meet
        first
        | (with_reducible exact ⟨rfl, rfl, _, _, _, _, _, rfl, (Lies.put6 LZ2.out _ _ _ _ _ _), (Own.put6 O1.out LZ2.out (by decide) _ _ _ _ _ _), (Own.put6 O2.out LZ2.out (by decide) _ _ _ _ _ _), GZ.out, (below_put6 Z.out GZ.out _ _ _ _ _ _)⟩)
        | (with_reducible exact ⟨rfl, rfl, _, _, _, _, _, rfl, (Lies.made wb 34 #[.int .u32 (kp.o : Int), .int .i64 kp.s, .bool kp.u, .slice bA kp.a.length bd, .int .i64 kp.c, .slice bB kp.r.length be]), (Own.alloc O1.out _), (Own.alloc O2.out _), Z.out.size, (Z.out.alloc Z.out.size (.cells #[.int .u32 (kp.o : Int), .int .i64 kp.s, .bool kp.u, .slice bA kp.a.length bd, .int .i64 kp.c, .slice bB kp.r.length be] 34))⟩)
  case rest =>
    obtain ⟨rfl, rfl, gK, bA, bd, bB, be, rfl, hLK, hO1, hO2, hgK, hBy⟩ := hcut
    generalize wc = x2 at *
    have SM2 := Lib.hid (SM1.out.below hBy)
    have LS2 : Hid (Lies x2 gs 62 #[.int .u32 (ep : Int), .slice A n c, .slice Da nd dc, .slice Ta nt tc, .slice Oa no oc, .bool false]) := Lib.hid SM2.out.box
    have LC2 := Lib.hid (LC1.out.below hBy LC1.out.lt)
    have LN2 := Lib.hid (LN1.out.below hBy LN1.out.lt)
    have HF2 : Hid (FV x2 A n c (fun i => (Y i).k)) := Lib.hid (HF1.out.below hBy)
    have HN2 := Lib.hid (HN1.out.below hBy)
    have LK := Lib.hid hLK
    have OK1 := Lib.hid hO1
    have OK2 := Lib.hid hO2
    have HGK := Lib.hid hgK
    have B12 := Lib.hid hBy
    clear hLK hO1 hO2 hgK hBy D3 u0 u1 v0 v1 v2 v3 v4 v5 v6 v7 v8 v9 v10 hz1 hz2 GB GB2 Z LS1 LC1 LN1 HF1 HN1
    obtain ⟨m0, m1, m2, m3, m4, m5⟩ := LS2.out.cells6
    obtain ⟨f0, f1, f2, f3, f4, f5⟩ := LS2.out.free6
    obtain ⟨v0, v1, v2, v3, v4, v5, v6, v7, v8, v9, v10⟩ := LN2.out.cells11
    obtain ⟨o0, o1, o2, o3, o4, o5⟩ := LC2.out.cells6
    go_wp2_with fail
    clear m0 m1 m2 m3 m4 m5 f0 f1 f2 f3 f4 f5 v0 v1 v2 v3 v4 v5 v6 v7 v8 v9 v10 o0 o1 o2 o3 o4 o5
    go_loopw [10] (OvR x2 no) (fun i _ => no - (intOf i).toNat)
    case atStart => exact ⟨0, 0, by omega, rfl, rfl⟩
    case round =>
      obtain ⟨j, k, hj, rfl, rfl⟩ := hrel
      have hnn : no < 200 := HNN.out.2.2.2
      obtain ⟨x3, hx3⟩ : ∃ z, z = x2.drewN k := ⟨_, rfl⟩
      have SM3 : Hid (SM w0 gs (⟨ep, A, n, c, Y, Da, nd, dc, D, Ta, nt, tc, U, Oa, no, oc, Ov⟩ : St) x3) := Lib.hid (by rw [hx3]; exact SM2.out.drewN k)
      have LN3 : Hid (Lies x3 (gC + 1) 29 #[.int .i64 7, .int .u32 (E : Int), .int .u32 0, .int .u64 0, .int .u64 0, .int .u32 (O : Int), .int .i64 S, .bool un, .int .i64 0, .slice none 0 0, .slice Ad ld cd]) := Lib.hid (by rw [hx3]; exact LN2.out)
      have LC3 : Hid (Lies x3 gC 77 #[.int .u32 (e : Int), .int .u32 (od : Int), .int .i64 st, .bool un, .slice Ad ld cd, .bool false]) := Lib.hid (by rw [hx3]; exact LC2.out)
      have HF3 : Hid (FV x3 A n c (fun i => (Y i).k)) := Lib.hid SM3.out.fv
      have HN3 : Hid (EntV x3 (stN E O S un l) none Ad 0 cd) := Lib.hid (by rw [hx3]; exact ⟨HN2.out.k, HN2.out.kc, HN2.out.km, HN2.out.ka, HN2.out.d, HN2.out.dc, HN2.out.dm, HN2.out.da, HN2.out.b⟩)
      have HX3 := Lib.hid hx3
      rw [← hx3]
      clear hx3
      have LS3 : Hid (Lies x3 gs 62 #[.int .u32 (ep : Int), .slice A n c, .slice Da nd dc, .slice Ta nt tc, .slice Oa no oc, .bool false]) := Lib.hid SM3.out.box
      obtain ⟨m0, m1, m2, m3, m4, m5⟩ := LS3.out.cells6
      obtain ⟨f0, f1, f2, f3, f4, f5⟩ := LS3.out.free6
      obtain ⟨v0, v1, v2, v3, v4, v5, v6, v7, v8, v9, v10⟩ := LN3.out.cells11
      obtain ⟨o0, o1, o2, o3, o4, o5⟩ := LC3.out.cells6
      by_cases hlt : j < no
      · have HNJ := Lib.hid (HNO.out j hlt)
        obtain ⟨A', c', hv, -, -, -, hat⟩ := SM3.out.o.row.slice
        injection hv with z1 z2 z3
        dsimp only at z1 z3 hat
        subst z1 z3
        obtain ⟨b, off, rfl, -, -, -⟩ := hat (by omega)
        clear hat z2
        have hi : (j : Int) < (no : Int) := by omega
        obtain ⟨⟨q0, q1, -, -, -, -⟩, -, -, -, -, -, -⟩ := SM3.out.o.row.at j hlt
        dsimp only at q0 q1
        obtain ⟨xo, hxo⟩ : ∃ q, (Ov j).k.o = q := ⟨_, rfl⟩
        obtain ⟨xs, hxs⟩ : ∃ q, (Ov j).k.s = q := ⟨_, rfl⟩
        rw [hxo] at q0
        rw [hxs] at q1
        skip
        have HNJ2 : Hid (¬ (xo = O ∧ xs = S)) := Lib.hid (by have h := HNJ.out; rw [← hxo, ← hxs]; exact h)
        clear hxo hxs HNJ
        have HS18 := Lib.hid (and4 (And.intro m4 m5) (And.intro v5 v6) (And.intro q0 q1))
        go_wp2_with fail
        clear m0 m1 m2 m3 m4 m5 v0 v1 v2 v3 v4 v5 v6 v7 v8 v9 v10 o0 o1 o2 o3 o4 o5 q0 q1
        by_cases ho : xo = O
        · as_aux_lemma =>
            have e1 : ((xo : Int) == (O : Int)) = true := by simp [ho]
            have e2 : (xs == S) = false := by rw [beq_eq_false_iff_ne]; exact fun h => HNJ2.out ⟨ho, h⟩
            clear ho
            refine wp_region_noPanic ?_
            refine wp_region_held_drew (S := fun W => W.cell? ⟨gs, 4, none⟩ = some (.slice (some ⟨b, off, none⟩) no oc) ∧ W.cell? ⟨gs, 5, none⟩ = some (.bool false) ∧ W.cell? ⟨gC + 1, 5, none⟩ = some (.int .u32 (O : Int)) ∧ W.cell? ⟨gC + 1, 6, none⟩ = some (.int .i64 S) ∧ W.cell? ⟨b, off + j * 6, none⟩ = some (.int .u32 (xo : Int)) ∧ W.cell? ⟨b, off + j * 6 + 1, none⟩ = some (.int .i64 xs)) (by kernel_rfl) HS18.out (fun hH0 => ?_)
            refine any_take 0 110 ?vc39x0 rfl rfl (by kernel_rfl) (by kernel_rfl) (by kernel_rfl) (fun _ _ _ h => h) (by rfl) ?hyc39x0 hH0 ?restc39x0
            case hyc39x0 => ((intro W hSw); obtain ⟨s0, s1, s2, s3, s4, s5⟩ := hSw; go_simp; (try with_reducible rfl))
            try simp only [Act.put, List.setIfInBounds_toArray, List.set_cons_zero, List.set_cons_succ]
            refine any_take 1 111 ?vc39x1 rfl rfl (by kernel_rfl) (by kernel_rfl) (by kernel_rfl) (fun _ _ _ h => h) (by rfl) ?hyc39x1 hH0 ?restc39x1
            case hyc39x1 => ((intro W hSw); obtain ⟨s0, s1, s2, s3, s4, s5⟩ := hSw; go_simp; (try with_reducible rfl))
            try simp only [Act.put, List.setIfInBounds_toArray, List.set_cons_zero, List.set_cons_succ]
            refine any_take 2 112 ?vc39x2 rfl rfl (by kernel_rfl) (by kernel_rfl) (by kernel_rfl) (fun _ _ _ h => h) (by rfl) ?hyc39x2 hH0 ?restc39x2
            case hyc39x2 => ((intro W hSw); obtain ⟨s0, s1, s2, s3, s4, s5⟩ := hSw; go_simp; (try with_reducible rfl))
            try simp only [Act.put, List.setIfInBounds_toArray, List.set_cons_zero, List.set_cons_succ]
            refine any_take 3 113 ?vc39x3 rfl rfl (by kernel_rfl) (by kernel_rfl) (by kernel_rfl) (fun _ _ _ h => h) (by rfl) ?hyc39x3 hH0 ?restc39x3
            case hyc39x3 => ((intro W hSw); obtain ⟨s0, s1, s2, s3, s4, s5⟩ := hSw; go_simp; (try with_reducible rfl))
            try simp only [Act.put, List.setIfInBounds_toArray, List.set_cons_zero, List.set_cons_succ]
            refine any_take 4 114 ?vc39x4 rfl rfl (by kernel_rfl) (by kernel_rfl) (by kernel_rfl) (fun _ _ _ h => h) (by rfl) ?hyc39x4 hH0 ?restc39x4
            case hyc39x4 => ((intro W hSw); obtain ⟨s0, s1, s2, s3, s4, s5⟩ := hSw; go_simp; (try with_reducible rfl))
            try simp only [Act.put, List.setIfInBounds_toArray, List.set_cons_zero, List.set_cons_succ]
            refine any_take 5 115 ?vc39x5 rfl rfl (by kernel_rfl) (by kernel_rfl) (by kernel_rfl) (fun _ _ _ h => h) (by rfl) ?hyc39x5 hH0 ?restc39x5
            case hyc39x5 => ((intro W hSw); obtain ⟨s0, s1, s2, s3, s4, s5⟩ := hSw; go_simp; (try with_reducible rfl))
            try simp only [Act.put, List.setIfInBounds_toArray, List.set_cons_zero, List.set_cons_succ]
            refine any_take 6 116 ?vc39x6 rfl rfl (by kernel_rfl) (by kernel_rfl) (by kernel_rfl) (fun _ _ _ h => h) (by rfl) ?hyc39x6 hH0 ?restc39x6
            case hyc39x6 => ((intro W hSw); obtain ⟨s0, s1, s2, s3, s4, s5⟩ := hSw; go_simp; (try with_reducible rfl))
            try simp only [Act.put, List.setIfInBounds_toArray, List.set_cons_zero, List.set_cons_succ]
            refine any_take 7 117 ?vc39x7 rfl rfl (by kernel_rfl) (by kernel_rfl) (by kernel_rfl) (fun _ _ _ h => h) (by rfl) ?hyc39x7 hH0 ?restc39x7
            case hyc39x7 => ((intro W hSw); obtain ⟨s0, s1, s2, s3, s4, s5⟩ := hSw; go_simp; (try with_reducible rfl))
            try simp only [Act.put, List.setIfInBounds_toArray, List.set_cons_zero, List.set_cons_succ]
            refine any_take 8 118 ?vc39x8 rfl rfl (by kernel_rfl) (by kernel_rfl) (by kernel_rfl) (fun _ _ _ h => h) (by rfl) ?hyc39x8 hH0 ?restc39x8
            case hyc39x8 => ((intro W hSw); obtain ⟨s0, s1, s2, s3, s4, s5⟩ := hSw; go_simp; (try with_reducible rfl))
            try simp only [Act.put, List.setIfInBounds_toArray, List.set_cons_zero, List.set_cons_succ]
            refine any_take 9 119 ?vc39x9 rfl rfl (by kernel_rfl) (by kernel_rfl) (by kernel_rfl) (fun _ _ _ h => h) (by rfl) ?hyc39x9 hH0 ?restc39x9
            case hyc39x9 => ((intro W hSw); obtain ⟨s0, s1, s2, s3, s4, s5⟩ := hSw; go_simp; (try with_reducible rfl))
            try simp only [Act.put, List.setIfInBounds_toArray, List.set_cons_zero, List.set_cons_succ]
            refine any_take 10 120 ?vc39x10 rfl rfl (by kernel_rfl) (by kernel_rfl) (by kernel_rfl) (fun _ _ _ h => h) (by rfl) ?hyc39x10 hH0 ?restc39x10
            case hyc39x10 => ((intro W hSw); obtain ⟨s0, s1, s2, s3, s4, s5⟩ := hSw; go_simp; (try with_reducible rfl))
            try simp only [Act.put, List.setIfInBounds_toArray, List.set_cons_zero, List.set_cons_succ]
            refine any_take 11 121 ?vc39x11 rfl rfl (by kernel_rfl) (by kernel_rfl) (by kernel_rfl) (fun _ _ _ h => h) (by rfl) ?hyc39x11 hH0 ?restc39x11
            case hyc39x11 => ((intro W hSw); obtain ⟨s0, s1, s2, s3, s4, s5⟩ := hSw; go_simp; (try with_reducible rfl))
            try simp only [Act.put, List.setIfInBounds_toArray, List.set_cons_zero, List.set_cons_succ]
            refine any_take 12 122 ?vc39x12 rfl rfl (by kernel_rfl) (by kernel_rfl) (by kernel_rfl) (fun _ _ _ h => h) (by rfl) ?hyc39x12 hH0 ?restc39x12
            case hyc39x12 => ((intro W hSw); obtain ⟨s0, s1, s2, s3, s4, s5⟩ := hSw; go_simp; (try with_reducible rfl))
            try simp only [Act.put, List.setIfInBounds_toArray, List.set_cons_zero, List.set_cons_succ]
            refine any_take 13 123 ?vc39x13 rfl rfl (by kernel_rfl) (by kernel_rfl) (by kernel_rfl) (fun _ _ _ h => h) (by rfl) ?hyc39x13 hH0 ?restc39x13
            case hyc39x13 => ((intro W hSw); obtain ⟨s0, s1, s2, s3, s4, s5⟩ := hSw; go_simp; (try with_reducible rfl))
            try simp only [Act.put, List.setIfInBounds_toArray, List.set_cons_zero, List.set_cons_succ]
            refine any_take 14 124 ?vc39x14 rfl rfl (by kernel_rfl) (by kernel_rfl) (by kernel_rfl) (fun _ _ _ h => h) (by rfl) ?hyc39x14 hH0 ?restc39x14
            case hyc39x14 => ((intro W hSw); obtain ⟨s0, s1, s2, s3, s4, s5⟩ := hSw; go_simp; (try with_reducible rfl))
            try simp only [Act.put, List.setIfInBounds_toArray, List.set_cons_zero, List.set_cons_succ]
            refine any_take 15 125 ?vc39x15 rfl rfl (by kernel_rfl) (by kernel_rfl) (by kernel_rfl) (fun _ _ _ h => h) (by rfl) ?hyc39x15 hH0 ?restc39x15
            case hyc39x15 => ((intro W hSw); obtain ⟨s0, s1, s2, s3, s4, s5⟩ := hSw; go_simp; (try with_reducible rfl))
            try simp only [Act.put, List.setIfInBounds_toArray, List.set_cons_zero, List.set_cons_succ]
            refine any_take 16 126 ?vc39x16 rfl rfl (by kernel_rfl) (by kernel_rfl) (by kernel_rfl) (fun _ _ _ h => h) (by rfl) ?hyc39x16 hH0 ?restc39x16
            case hyc39x16 => ((intro W hSw); obtain ⟨s0, s1, s2, s3, s4, s5⟩ := hSw; go_simp; (try with_reducible rfl))
            try simp only [Act.put, List.setIfInBounds_toArray, List.set_cons_zero, List.set_cons_succ]
            refine any_take 17 127 ?vc39x17 rfl rfl (by kernel_rfl) (by kernel_rfl) (by kernel_rfl) (fun _ _ _ h => h) (by rfl) ?hyc39x17 hH0 ?restc39x17
            case hyc39x17 => ((intro W hSw); obtain ⟨s0, s1, s2, s3, s4, s5⟩ := hSw; go_simp; (try with_reducible rfl))
            try simp only [Act.put, List.setIfInBounds_toArray, List.set_cons_zero, List.set_cons_succ]
            refine any_take 18 128 ?vc39x18 rfl rfl (by kernel_rfl) (by kernel_rfl) (by kernel_rfl) (fun _ _ _ h => h) (by rfl) ?hyc39x18 hH0 ?restc39x18
            case hyc39x18 => ((intro W hSw); obtain ⟨s0, s1, s2, s3, s4, s5⟩ := hSw; go_simp; (try with_reducible rfl))
            try simp only [Act.put, List.setIfInBounds_toArray, List.set_cons_zero, List.set_cons_succ]
            refine any_take 19 129 ?vc39x19 rfl rfl (by kernel_rfl) (by kernel_rfl) (by kernel_rfl) (fun _ _ _ h => h) (by rfl) ?hyc39x19 hH0 ?restc39x19
            case hyc39x19 => ((intro W hSw); obtain ⟨s0, s1, s2, s3, s4, s5⟩ := hSw; go_simp; (try with_reducible rfl))
            try simp only [Act.put, List.setIfInBounds_toArray, List.set_cons_zero, List.set_cons_succ]
            refine any_take 20 130 ?vc39x20 rfl rfl (by kernel_rfl) (by kernel_rfl) (by kernel_rfl) (fun _ _ _ h => h) (by rfl) ?hyc39x20 hH0 ?restc39x20
            case hyc39x20 => ((intro W hSw); obtain ⟨s0, s1, s2, s3, s4, s5⟩ := hSw; go_simp; (try with_reducible rfl))
            try simp only [Act.put, List.setIfInBounds_toArray, List.set_cons_zero, List.set_cons_succ]
            refine any_take 21 131 ?vc39x21 rfl rfl (by kernel_rfl) (by kernel_rfl) (by kernel_rfl) (fun _ _ _ h => h) (by rfl) ?hyc39x21 hH0 ?restc39x21
            case hyc39x21 => ((intro W hSw); obtain ⟨s0, s1, s2, s3, s4, s5⟩ := hSw; go_simp; (try with_reducible rfl))
            try simp only [Act.put, List.setIfInBounds_toArray, List.set_cons_zero, List.set_cons_succ]
            refine any_take 22 132 ?vc39x22 rfl rfl (by kernel_rfl) (by kernel_rfl) (by kernel_rfl) (fun _ _ _ h => h) (by rfl) ?hyc39x22 hH0 ?restc39x22
            case hyc39x22 => ((intro W hSw); obtain ⟨s0, s1, s2, s3, s4, s5⟩ := hSw; go_simp; (try with_reducible rfl))
            try simp only [Act.put, List.setIfInBounds_toArray, List.set_cons_zero, List.set_cons_succ]
            refine any_take 23 133 ?vc39x23 rfl rfl (by kernel_rfl) (by kernel_rfl) (by kernel_rfl) (fun _ _ _ h => h) (by rfl) ?hyc39x23 hH0 ?restc39x23
            case hyc39x23 => ((intro W hSw); obtain ⟨s0, s1, s2, s3, s4, s5⟩ := hSw; go_simp; (try with_reducible rfl))
            try simp only [Act.put, List.setIfInBounds_toArray, List.set_cons_zero, List.set_cons_succ]
            refine any_take 24 134 ?vc39x24 rfl rfl (by kernel_rfl) (by kernel_rfl) (by kernel_rfl) (fun _ _ _ h => h) (by rfl) ?hyc39x24 hH0 ?restc39x24
            case hyc39x24 => ((intro W hSw); obtain ⟨s0, s1, s2, s3, s4, s5⟩ := hSw; go_simp; (try with_reducible rfl))
            try simp only [Act.put, List.setIfInBounds_toArray, List.set_cons_zero, List.set_cons_succ]
            refine any_take 25 135 ?vc39x25 rfl rfl (by kernel_rfl) (by kernel_rfl) (by kernel_rfl) (fun _ _ _ h => h) (by rfl) ?hyc39x25 hH0 ?restc39x25
            case hyc39x25 => ((intro W hSw); obtain ⟨s0, s1, s2, s3, s4, s5⟩ := hSw; go_simp; (try with_reducible rfl))
            try simp only [Act.put, List.setIfInBounds_toArray, List.set_cons_zero, List.set_cons_succ]
            refine any_take 26 136 ?vc39x26 rfl rfl (by kernel_rfl) (by kernel_rfl) (by kernel_rfl) (fun _ _ _ h => h) (by rfl) ?hyc39x26 hH0 ?restc39x26
            case hyc39x26 => ((intro W hSw); obtain ⟨s0, s1, s2, s3, s4, s5⟩ := hSw; go_simp; (try with_reducible rfl))
            try simp only [Act.put, List.setIfInBounds_toArray, List.set_cons_zero, List.set_cons_succ]
            refine any_take 27 137 ?vc39x27 rfl rfl (by kernel_rfl) (by kernel_rfl) (by kernel_rfl) (fun _ _ _ h => h) (by rfl) ?hyc39x27 hH0 ?restc39x27
            case hyc39x27 => ((intro W hSw); obtain ⟨s0, s1, s2, s3, s4, s5⟩ := hSw; go_simp; (try with_reducible rfl))
            try simp only [Act.put, List.setIfInBounds_toArray, List.set_cons_zero, List.set_cons_succ]
            refine any_take 28 138 ?vc39x28 rfl rfl (by kernel_rfl) (by kernel_rfl) (by kernel_rfl) (fun _ _ _ h => h) (by rfl) ?hyc39x28 hH0 ?restc39x28
            case hyc39x28 => ((intro W hSw); obtain ⟨s0, s1, s2, s3, s4, s5⟩ := hSw; go_simp; (try with_reducible rfl))
            try simp only [Act.put, List.setIfInBounds_toArray, List.set_cons_zero, List.set_cons_succ]
            refine any_take 29 139 ?vc39x29 rfl rfl (by kernel_rfl) (by kernel_rfl) (by kernel_rfl) (fun _ _ _ h => h) (by rfl) ?hyc39x29 hH0 ?restc39x29
            case hyc39x29 => ((intro W hSw); obtain ⟨s0, s1, s2, s3, s4, s5⟩ := hSw; go_simp; (try with_reducible rfl))
            try simp only [Act.put, List.setIfInBounds_toArray, List.set_cons_zero, List.set_cons_succ]
            refine any_take 30 140 ?vc39x30 rfl rfl (by kernel_rfl) (by kernel_rfl) (by kernel_rfl) (fun _ _ _ h => h) (by rfl) ?hyc39x30 hH0 ?restc39x30
            case hyc39x30 => ((intro W hSw); obtain ⟨s0, s1, s2, s3, s4, s5⟩ := hSw; go_simp; (try with_reducible rfl))
            try simp only [Act.put, List.setIfInBounds_toArray, List.set_cons_zero, List.set_cons_succ]
            refine any_take 31 141 ?vc39x31 rfl rfl (by kernel_rfl) (by kernel_rfl) (by kernel_rfl) (fun _ _ _ h => h) (by rfl) ?hyc39x31 hH0 ?restc39x31
            case hyc39x31 => ((intro W hSw); obtain ⟨s0, s1, s2, s3, s4, s5⟩ := hSw; go_simp; (try with_reducible rfl))
            try simp only [Act.put, List.setIfInBounds_toArray, List.set_cons_zero, List.set_cons_succ]
            refine any_take 32 142 ?vc39x32 rfl rfl (by kernel_rfl) (by kernel_rfl) (by kernel_rfl) (fun _ _ _ h => h) (by rfl) ?hyc39x32 hH0 ?restc39x32
            case hyc39x32 => ((intro W hSw); obtain ⟨s0, s1, s2, s3, s4, s5⟩ := hSw; go_simp; (try with_reducible rfl))
            try simp only [Act.put, List.setIfInBounds_toArray, List.set_cons_zero, List.set_cons_succ]
            refine wpAnyH_ready (rs := [33]) (by kernel_rfl) (by simp) ?_
            refine AllReadyH.cons rfl (fun K hK => ?_) AllReadyH.nil
            go_simp
            refine hK.out _ _ (by rw [setCell_same LS3.out rfl]; exact HS18.out) (fun hH4 => ?_)
            clear hK K hH0 hH4
            try simp only [Act.put, List.setIfInBounds_toArray, List.set_cons_zero, List.set_cons_succ]
            refine wpAnyH_done (by kernel_rfl) ?_ _
            refine NoPanic.normal ?_
            rw [setCell_same LS3.out rfl]
            go_wp2
            go_roundw
            case rel => exact ⟨j + 1, k + 1, by omega, by go_num, by rw [HX3.out]; rfl⟩
            case measure => simp [intOf]; omega
        · as_aux_lemma =>
            have e1 : ((xo : Int) == (O : Int)) = false := by rw [beq_eq_false_iff_ne]; omega
            clear ho
            refine wp_region_noPanic ?_
            refine wp_region_held_drew (S := fun W => W.cell? ⟨gs, 4, none⟩ = some (.slice (some ⟨b, off, none⟩) no oc) ∧ W.cell? ⟨gs, 5, none⟩ = some (.bool false) ∧ W.cell? ⟨gC + 1, 5, none⟩ = some (.int .u32 (O : Int)) ∧ W.cell? ⟨gC + 1, 6, none⟩ = some (.int .i64 S) ∧ W.cell? ⟨b, off + j * 6, none⟩ = some (.int .u32 (xo : Int)) ∧ W.cell? ⟨b, off + j * 6 + 1, none⟩ = some (.int .i64 xs)) (by kernel_rfl) HS18.out (fun hH0 => ?_)
            refine any_take 0 110 ?vc40x0 rfl rfl (by kernel_rfl) (by kernel_rfl) (by kernel_rfl) (fun _ _ _ h => h) (by rfl) ?hyc40x0 hH0 ?restc40x0
            case hyc40x0 => ((intro W hSw); obtain ⟨s0, s1, s2, s3, s4, s5⟩ := hSw; go_simp; (try with_reducible rfl))
            try simp only [Act.put, List.setIfInBounds_toArray, List.set_cons_zero, List.set_cons_succ]
            refine any_take 1 111 ?vc40x1 rfl rfl (by kernel_rfl) (by kernel_rfl) (by kernel_rfl) (fun _ _ _ h => h) (by rfl) ?hyc40x1 hH0 ?restc40x1
            case hyc40x1 => ((intro W hSw); obtain ⟨s0, s1, s2, s3, s4, s5⟩ := hSw; go_simp; (try with_reducible rfl))
            try simp only [Act.put, List.setIfInBounds_toArray, List.set_cons_zero, List.set_cons_succ]
            refine any_take 2 112 ?vc40x2 rfl rfl (by kernel_rfl) (by kernel_rfl) (by kernel_rfl) (fun _ _ _ h => h) (by rfl) ?hyc40x2 hH0 ?restc40x2
            case hyc40x2 => ((intro W hSw); obtain ⟨s0, s1, s2, s3, s4, s5⟩ := hSw; go_simp; (try with_reducible rfl))
            try simp only [Act.put, List.setIfInBounds_toArray, List.set_cons_zero, List.set_cons_succ]
            refine any_take 3 113 ?vc40x3 rfl rfl (by kernel_rfl) (by kernel_rfl) (by kernel_rfl) (fun _ _ _ h => h) (by rfl) ?hyc40x3 hH0 ?restc40x3
            case hyc40x3 => ((intro W hSw); obtain ⟨s0, s1, s2, s3, s4, s5⟩ := hSw; go_simp; (try with_reducible rfl))
            try simp only [Act.put, List.setIfInBounds_toArray, List.set_cons_zero, List.set_cons_succ]
            refine any_take 4 114 ?vc40x4 rfl rfl (by kernel_rfl) (by kernel_rfl) (by kernel_rfl) (fun _ _ _ h => h) (by rfl) ?hyc40x4 hH0 ?restc40x4
            case hyc40x4 => ((intro W hSw); obtain ⟨s0, s1, s2, s3, s4, s5⟩ := hSw; go_simp; (try with_reducible rfl))
            try simp only [Act.put, List.setIfInBounds_toArray, List.set_cons_zero, List.set_cons_succ]
            refine any_take 5 115 ?vc40x5 rfl rfl (by kernel_rfl) (by kernel_rfl) (by kernel_rfl) (fun _ _ _ h => h) (by rfl) ?hyc40x5 hH0 ?restc40x5
            case hyc40x5 => ((intro W hSw); obtain ⟨s0, s1, s2, s3, s4, s5⟩ := hSw; go_simp; (try with_reducible rfl))
            try simp only [Act.put, List.setIfInBounds_toArray, List.set_cons_zero, List.set_cons_succ]
            refine any_take 6 116 ?vc40x6 rfl rfl (by kernel_rfl) (by kernel_rfl) (by kernel_rfl) (fun _ _ _ h => h) (by rfl) ?hyc40x6 hH0 ?restc40x6
            case hyc40x6 => ((intro W hSw); obtain ⟨s0, s1, s2, s3, s4, s5⟩ := hSw; go_simp; (try with_reducible rfl))
            try simp only [Act.put, List.setIfInBounds_toArray, List.set_cons_zero, List.set_cons_succ]
            refine any_take 7 117 ?vc40x7 rfl rfl (by kernel_rfl) (by kernel_rfl) (by kernel_rfl) (fun _ _ _ h => h) (by rfl) ?hyc40x7 hH0 ?restc40x7
            case hyc40x7 => ((intro W hSw); obtain ⟨s0, s1, s2, s3, s4, s5⟩ := hSw; go_simp; (try with_reducible rfl))
            try simp only [Act.put, List.setIfInBounds_toArray, List.set_cons_zero, List.set_cons_succ]
            refine any_take 8 118 ?vc40x8 rfl rfl (by kernel_rfl) (by kernel_rfl) (by kernel_rfl) (fun _ _ _ h => h) (by rfl) ?hyc40x8 hH0 ?restc40x8
            case hyc40x8 => ((intro W hSw); obtain ⟨s0, s1, s2, s3, s4, s5⟩ := hSw; go_simp; (try with_reducible rfl))
            try simp only [Act.put, List.setIfInBounds_toArray, List.set_cons_zero, List.set_cons_succ]
            refine any_take 9 119 ?vc40x9 rfl rfl (by kernel_rfl) (by kernel_rfl) (by kernel_rfl) (fun _ _ _ h => h) (by rfl) ?hyc40x9 hH0 ?restc40x9
            case hyc40x9 => ((intro W hSw); obtain ⟨s0, s1, s2, s3, s4, s5⟩ := hSw; go_simp; (try with_reducible rfl))
            try simp only [Act.put, List.setIfInBounds_toArray, List.set_cons_zero, List.set_cons_succ]
            refine any_take 10 120 ?vc40x10 rfl rfl (by kernel_rfl) (by kernel_rfl) (by kernel_rfl) (fun _ _ _ h => h) (by rfl) ?hyc40x10 hH0 ?restc40x10
            case hyc40x10 => ((intro W hSw); obtain ⟨s0, s1, s2, s3, s4, s5⟩ := hSw; go_simp; (try with_reducible rfl))
            try simp only [Act.put, List.setIfInBounds_toArray, List.set_cons_zero, List.set_cons_succ]
            refine any_take 11 121 ?vc40x11 rfl rfl (by kernel_rfl) (by kernel_rfl) (by kernel_rfl) (fun _ _ _ h => h) (by rfl) ?hyc40x11 hH0 ?restc40x11
            case hyc40x11 => ((intro W hSw); obtain ⟨s0, s1, s2, s3, s4, s5⟩ := hSw; go_simp; (try with_reducible rfl))
            try simp only [Act.put, List.setIfInBounds_toArray, List.set_cons_zero, List.set_cons_succ]
            refine any_take 12 122 ?vc40x12 rfl rfl (by kernel_rfl) (by kernel_rfl) (by kernel_rfl) (fun _ _ _ h => h) (by rfl) ?hyc40x12 hH0 ?restc40x12
            case hyc40x12 => ((intro W hSw); obtain ⟨s0, s1, s2, s3, s4, s5⟩ := hSw; go_simp; (try with_reducible rfl))
            try simp only [Act.put, List.setIfInBounds_toArray, List.set_cons_zero, List.set_cons_succ]
            refine any_take 13 123 ?vc40x13 rfl rfl (by kernel_rfl) (by kernel_rfl) (by kernel_rfl) (fun _ _ _ h => h) (by rfl) ?hyc40x13 hH0 ?restc40x13
            case hyc40x13 => ((intro W hSw); obtain ⟨s0, s1, s2, s3, s4, s5⟩ := hSw; go_simp; (try with_reducible rfl))
            try simp only [Act.put, List.setIfInBounds_toArray, List.set_cons_zero, List.set_cons_succ]
            refine any_take 14 124 ?vc40x14 rfl rfl (by kernel_rfl) (by kernel_rfl) (by kernel_rfl) (fun _ _ _ h => h) (by rfl) ?hyc40x14 hH0 ?restc40x14
            case hyc40x14 => ((intro W hSw); obtain ⟨s0, s1, s2, s3, s4, s5⟩ := hSw; go_simp; (try with_reducible rfl))
            try simp only [Act.put, List.setIfInBounds_toArray, List.set_cons_zero, List.set_cons_succ]
            refine any_take 15 125 ?vc40x15 rfl rfl (by kernel_rfl) (by kernel_rfl) (by kernel_rfl) (fun _ _ _ h => h) (by rfl) ?hyc40x15 hH0 ?restc40x15
            case hyc40x15 => ((intro W hSw); obtain ⟨s0, s1, s2, s3, s4, s5⟩ := hSw; go_simp; (try with_reducible rfl))
            try simp only [Act.put, List.setIfInBounds_toArray, List.set_cons_zero, List.set_cons_succ]
            refine any_take 16 126 ?vc40x16 rfl rfl (by kernel_rfl) (by kernel_rfl) (by kernel_rfl) (fun _ _ _ h => h) (by rfl) ?hyc40x16 hH0 ?restc40x16
            case hyc40x16 => ((intro W hSw); obtain ⟨s0, s1, s2, s3, s4, s5⟩ := hSw; go_simp; (try with_reducible rfl))
            try simp only [Act.put, List.setIfInBounds_toArray, List.set_cons_zero, List.set_cons_succ]
            refine any_take 17 127 ?vc40x17 rfl rfl (by kernel_rfl) (by kernel_rfl) (by kernel_rfl) (fun _ _ _ h => h) (by rfl) ?hyc40x17 hH0 ?restc40x17
            case hyc40x17 => ((intro W hSw); obtain ⟨s0, s1, s2, s3, s4, s5⟩ := hSw; go_simp; (try with_reducible rfl))
            try simp only [Act.put, List.setIfInBounds_toArray, List.set_cons_zero, List.set_cons_succ]
            refine any_skip 18 128 rfl rfl (by kernel_rfl) (by kernel_rfl) (by kernel_rfl) (fun _ _ _ h => h) (by rfl) hH0 ?_
            try simp only [Act.put, List.setIfInBounds_toArray, List.set_cons_zero, List.set_cons_succ]
            refine any_skip 19 129 rfl rfl (by kernel_rfl) (by kernel_rfl) (by kernel_rfl) (fun _ _ _ h => h) (by rfl) hH0 ?_
            try simp only [Act.put, List.setIfInBounds_toArray, List.set_cons_zero, List.set_cons_succ]
            refine any_skip 20 130 rfl rfl (by kernel_rfl) (by kernel_rfl) (by kernel_rfl) (fun _ _ _ h => h) (by rfl) hH0 ?_
            try simp only [Act.put, List.setIfInBounds_toArray, List.set_cons_zero, List.set_cons_succ]
            refine any_skip 21 131 rfl rfl (by kernel_rfl) (by kernel_rfl) (by kernel_rfl) (fun _ _ _ h => h) (by rfl) hH0 ?_
            try simp only [Act.put, List.setIfInBounds_toArray, List.set_cons_zero, List.set_cons_succ]
            refine any_skip 22 132 rfl rfl (by kernel_rfl) (by kernel_rfl) (by kernel_rfl) (fun _ _ _ h => h) (by rfl) hH0 ?_
            try simp only [Act.put, List.setIfInBounds_toArray, List.set_cons_zero, List.set_cons_succ]
            refine any_skip 23 133 rfl rfl (by kernel_rfl) (by kernel_rfl) (by kernel_rfl) (fun _ _ _ h => h) (by rfl) hH0 ?_
            try simp only [Act.put, List.setIfInBounds_toArray, List.set_cons_zero, List.set_cons_succ]
            refine any_skip 24 134 rfl rfl (by kernel_rfl) (by kernel_rfl) (by kernel_rfl) (fun _ _ _ h => h) (by rfl) hH0 ?_
            try simp only [Act.put, List.setIfInBounds_toArray, List.set_cons_zero, List.set_cons_succ]
            refine any_skip 25 135 rfl rfl (by kernel_rfl) (by kernel_rfl) (by kernel_rfl) (fun _ _ _ h => h) (by rfl) hH0 ?_
            try simp only [Act.put, List.setIfInBounds_toArray, List.set_cons_zero, List.set_cons_succ]
            refine any_skip 26 136 rfl rfl (by kernel_rfl) (by kernel_rfl) (by kernel_rfl) (fun _ _ _ h => h) (by rfl) hH0 ?_
            try simp only [Act.put, List.setIfInBounds_toArray, List.set_cons_zero, List.set_cons_succ]
            refine any_skip 27 137 rfl rfl (by kernel_rfl) (by kernel_rfl) (by kernel_rfl) (fun _ _ _ h => h) (by rfl) hH0 ?_
            try simp only [Act.put, List.setIfInBounds_toArray, List.set_cons_zero, List.set_cons_succ]
            refine any_skip 28 138 rfl rfl (by kernel_rfl) (by kernel_rfl) (by kernel_rfl) (fun _ _ _ h => h) (by rfl) hH0 ?_
            try simp only [Act.put, List.setIfInBounds_toArray, List.set_cons_zero, List.set_cons_succ]
            refine any_take 29 139 ?vc40x29 rfl rfl (by kernel_rfl) (by kernel_rfl) (by kernel_rfl) (fun _ _ _ h => h) (by rfl) ?hyc40x29 hH0 ?restc40x29
            case hyc40x29 => ((intro W hSw); obtain ⟨s0, s1, s2, s3, s4, s5⟩ := hSw; go_simp; (try with_reducible rfl))
            try simp only [Act.put, List.setIfInBounds_toArray, List.set_cons_zero, List.set_cons_succ]
            refine any_take 30 140 ?vc40x30 rfl rfl (by kernel_rfl) (by kernel_rfl) (by kernel_rfl) (fun _ _ _ h => h) (by rfl) ?hyc40x30 hH0 ?restc40x30
            case hyc40x30 => ((intro W hSw); obtain ⟨s0, s1, s2, s3, s4, s5⟩ := hSw; go_simp; (try with_reducible rfl))
            try simp only [Act.put, List.setIfInBounds_toArray, List.set_cons_zero, List.set_cons_succ]
            refine any_take 31 141 ?vc40x31 rfl rfl (by kernel_rfl) (by kernel_rfl) (by kernel_rfl) (fun _ _ _ h => h) (by rfl) ?hyc40x31 hH0 ?restc40x31
            case hyc40x31 => ((intro W hSw); obtain ⟨s0, s1, s2, s3, s4, s5⟩ := hSw; go_simp; (try with_reducible rfl))
            try simp only [Act.put, List.setIfInBounds_toArray, List.set_cons_zero, List.set_cons_succ]
            refine any_take 32 142 ?vc40x32 rfl rfl (by kernel_rfl) (by kernel_rfl) (by kernel_rfl) (fun _ _ _ h => h) (by rfl) ?hyc40x32 hH0 ?restc40x32
            case hyc40x32 => ((intro W hSw); obtain ⟨s0, s1, s2, s3, s4, s5⟩ := hSw; go_simp; (try with_reducible rfl))
            try simp only [Act.put, List.setIfInBounds_toArray, List.set_cons_zero, List.set_cons_succ]
            refine wpAnyH_ready (rs := [33]) (by kernel_rfl) (by simp) ?_
            refine AllReadyH.cons rfl (fun K hK => ?_) AllReadyH.nil
            go_simp
            refine hK.out _ _ (by rw [setCell_same LS3.out rfl]; exact HS18.out) (fun hH4 => ?_)
            clear hK K hH0 hH4
            try simp only [Act.put, List.setIfInBounds_toArray, List.set_cons_zero, List.set_cons_succ]
            refine wpAnyH_done (by kernel_rfl) ?_ _
            refine NoPanic.normal ?_
            rw [setCell_same LS3.out rfl]
            go_wp2
            go_roundw
            case rel => exact ⟨j + 1, k + 1, by omega, by go_num, by rw [HX3.out]; rfl⟩
            case measure => simp [intOf]; omega
      · have d0 : decide ((j : Int) < (no : Int)) = false := by rw [decide_eq_false_iff_not]; omega
        have d0b : decide (j < no) = false := by rw [decide_eq_false_iff_not]; omega
        go_wp2_with fail
        clear m0 m1 m2 m3 m4 m5 f0 f1 f2 f3 f4 f5 v0 v1 v2 v3 v4 v5 v6 v7 v8 v9 v10 o0 o1 o2 o3 o4 o5
        clear d0 d0b hlt hj SM2 LS2 LC2 LN2 HF2 HN2 HX3 LS3
        have BYW : Hid (∀ W : World, Bys (W.alloc (.cells #[.int .u8 (IntKind.u8.wrap (nt : Int))] 5)) (some ⟨W.heap.size, 0, none⟩) 1 [nt]) := Lib.hid (fun W => by rw [show IntKind.u8.wrap (nt : Int) = (nt : Int) by have := HNT.out; rw [IntKind.wrap_u8]; omega]; exact Bys.const W _ [nt] (0, 0) 1 rfl rfl (fun c hc => by have := HNT.out; simp at hc; omega))
        have BYW2 : Hid (∀ W : World, Bys ((W.alloc (.cells #[.int .u32 0, .slice none 0 0] 25)).alloc (.cells #[.int .u8 (IntKind.u8.wrap (nt : Int))] 5)) (some ⟨W.heap.size + 1, 0, none⟩) 1 [nt]) := Lib.hid (fun W => by have h := BYW.out (W.alloc (.cells #[.int .u32 0, .slice none 0 0] 25)); rw [show (W.alloc (.cells #[.int .u32 0, .slice none 0 0] 25)).heap.size = W.heap.size + 1 by simp] at h; exact h)
        have LMW2 : Hid (∀ W : World, Lies ((W.alloc (.cells #[.int .u8 (IntKind.u8.wrap (nt : Int))] 5)).alloc (.cells #[.int .u32 0, .slice none 0 0] 25)) (W.heap.size + 1) 25 #[.int .u32 0, .slice none 0 0]) := Lib.hid (fun W => by have h := Lies.made (W.alloc (.cells #[.int .u8 (IntKind.u8.wrap (nt : Int))] 5)) 25 #[.int .u32 0, .slice none 0 0]; rw [show (W.alloc (.cells #[.int .u8 (IntKind.u8.wrap (nt : Int))] 5)).heap.size = W.heap.size + 1 by simp] at h; exact h)
        have D21 := Lib.hid (fun W (hb : Below x3.heap.size x3 W) gB (hR : Bys W (some ⟨gB, 0, none⟩) 1 [nt]) => keep_st ep A n c (fun i => (Y i).k) E O S un Ad ld cd l 2 gB nt W (HF3.out.below hb) (HN3.out.below hb) HLD.out H64.out HEP.out (by unfold in64; decide) hR KE0.out)
        have LSq : Hid (Lies x3 gs 62 #[.int .u32 (ep : Int), .slice A n c, .slice Da nd dc, .slice Ta nt tc, .slice Oa no oc, .bool false]) := Lib.hid SM3.out.box
        have Z := Lib.hid (Below.refl x3.heap.size x3)
        obtain ⟨u0, u1, -, u3, -, -⟩ := LSq.out.cells6
        obtain ⟨v0, v1, v2, v3, v4, v5, v6, v7, v8, v9, v10⟩ := LN3.out.cells11
        have hz1 : x3.heap.size ≠ gs := Nat.ne_of_gt LSq.out.lt
        have hz2 : x3.heap.size ≠ gC + 1 := Nat.ne_of_gt LN3.out.lt
        have hz3 : x3.heap.size + 1 ≠ gs := by have := LSq.out.lt; omega
        have hz4 : x3.heap.size ≠ gC := by have := LN3.out.lt; omega
        go_cut [11, 12] (fun s11 s12 W => s12 = .int .i64 0 ∧ ∃ g A6 c6 Y6, s11 = .pointer (some ⟨g, 0, none⟩) ∧ Lies W g 25 #[.int .u32 (E : Int), .slice A6 (n + 1) c6] ∧ NF W x3.heap.size (.slice A6 (n + 1) c6) (n + 1) Y6 ∧ (∀ i, i < n + 1 → (Y6 i).k = ins (pos (fun i => (Y i).k) (kn O S un) n) ⟨O, S, un, l, 2, [nt]⟩ (fun i => (Y i).k) i) ∧ x3.heap.size ≤ g ∧ Below x3.heap.size x3 W)
        case first =>
          as_aux_lemma =>
            go_region_held3 (fun W => W.cell? ⟨gs, 0, none⟩ = some (.int .u32 (ep : Int)) ∧ W.cell? ⟨gs, 1, none⟩ = some (.slice A n c) ∧ W.cell? ⟨gs, 3, none⟩ = some (.slice Ta nt tc) ∧ W.cell? ⟨gC + 1, 0, none⟩ = some (.int .i64 7) ∧ W.cell? ⟨gC + 1, 1, none⟩ = some (.int .u32 (E : Int)) ∧ W.cell? ⟨gC + 1, 2, none⟩ = some (.int .u32 0) ∧ W.cell? ⟨gC + 1, 3, none⟩ = some (.int .u64 0) ∧ W.cell? ⟨gC + 1, 4, none⟩ = some (.int .u64 0) ∧ W.cell? ⟨gC + 1, 5, none⟩ = some (.int .u32 (O : Int)) ∧ W.cell? ⟨gC + 1, 6, none⟩ = some (.int .i64 S) ∧ W.cell? ⟨gC + 1, 7, none⟩ = some (.bool un) ∧ W.cell? ⟨gC + 1, 8, none⟩ = some (.int .i64 0) ∧ W.cell? ⟨gC + 1, 9, none⟩ = some (.slice none 0 0) ∧ W.cell? ⟨gC + 1, 10, none⟩ = some (.slice Ad ld cd)) (first | (with_reducible exact ⟨u0, u1, u3, v0, v1, v2, v3, v4, v5, v6, v7, v8, v9, v10⟩) | go_keep)
              (first
              | (go_at_call 26; (with_reducible refine (D21.out (x3.alloc (.cells #[.int .u8 (IntKind.u8.wrap (nt : Int))] 5)).drew (Z.out.alloc Z.out.size (.cells #[.int .u8 (IntKind.u8.wrap (nt : Int))] 5)).drew _ (Bys.drew (BYW.out x3))).mono ?_); (rintro x wb ⟨A6, c6, Y6, rfl, hnf, hyk, hb⟩); (have NF6 := Lib.hid (hnf.mono ((Z.out.alloc Z.out.size (.cells #[.int .u8 (IntKind.u8.wrap (nt : Int))] 5)).size))); (have HY6 := Lib.hid hyk); (have Z := Lib.hid ((Z.out.alloc Z.out.size (.cells #[.int .u8 (IntKind.u8.wrap (nt : Int))] 5)).drew.trans (hb.mono (Z.out.alloc Z.out.size (.cells #[.int .u8 (IntKind.u8.wrap (nt : Int))] 5)).size))); (clear u0 u1 u3 v0 v1 v2 v3 v4 v5 v6 v7 v8 v9 v10); (obtain ⟨u0, u1, -, u3, -, -⟩ := (Lies.below LSq.out Z.out (Lies.lt LSq.out)).cells6); (obtain ⟨v0, v1, v2, v3, v4, v5, v6, v7, v8, v9, v10⟩ := (Lies.below LN3.out Z.out (Lies.lt LN3.out)).cells11); (have hy1 : wb.heap.size ≠ gs := Nat.ne_of_gt (Nat.lt_of_lt_of_le LSq.out.lt Z.out.size)); (have hy2 : wb.heap.size ≠ gC + 1 := Nat.ne_of_gt (Nat.lt_of_lt_of_le LN3.out.lt Z.out.size)); (clear hnf hyk hb))
              | (go_at_call 26; (with_reducible refine (D21.out ((x3.alloc (.cells #[.int .u32 0, .slice none 0 0] 25)).alloc (.cells #[.int .u8 (IntKind.u8.wrap (nt : Int))] 5)).drew ((Z.out.alloc Z.out.size (.cells #[.int .u32 0, .slice none 0 0] 25)).alloc (Z.out.alloc Z.out.size (.cells #[.int .u32 0, .slice none 0 0] 25)).size (.cells #[.int .u8 (IntKind.u8.wrap (nt : Int))] 5)).drew _ (Bys.drew (BYW2.out x3))).mono ?_); (rintro x wb ⟨A6, c6, Y6, rfl, hnf, hyk, hb⟩); (have LZ2 := Lib.hid (Lies.below (Lies.drew (Lies.alloc (Lies.made x3 25 #[.int .u32 0, .slice none 0 0]) (.cells #[.int .u8 (IntKind.u8.wrap (nt : Int))] 5))) hb (Lies.lt (Lies.alloc (Lies.made x3 25 #[.int .u32 0, .slice none 0 0]) (.cells #[.int .u8 (IntKind.u8.wrap (nt : Int))] 5))))); (have GZ := Lib.hid (Nat.le_refl x3.heap.size)); (obtain ⟨zc0, zc1⟩ := LZ2.out.cells2); (obtain ⟨zf0, zf1⟩ := LZ2.out.free2); (have NF6 := Lib.hid (hnf.mono (((Z.out.alloc Z.out.size (.cells #[.int .u32 0, .slice none 0 0] 25)).alloc (Z.out.alloc Z.out.size (.cells #[.int .u32 0, .slice none 0 0] 25)).size (.cells #[.int .u8 (IntKind.u8.wrap (nt : Int))] 5)).size))); (have HY6 := Lib.hid hyk); (have Z := Lib.hid (((Z.out.alloc Z.out.size (.cells #[.int .u32 0, .slice none 0 0] 25)).alloc (Z.out.alloc Z.out.size (.cells #[.int .u32 0, .slice none 0 0] 25)).size (.cells #[.int .u8 (IntKind.u8.wrap (nt : Int))] 5)).drew.trans (hb.mono ((Z.out.alloc Z.out.size (.cells #[.int .u32 0, .slice none 0 0] 25)).alloc (Z.out.alloc Z.out.size (.cells #[.int .u32 0, .slice none 0 0] 25)).size (.cells #[.int .u8 (IntKind.u8.wrap (nt : Int))] 5)).size))); (clear u0 u1 u3 v0 v1 v2 v3 v4 v5 v6 v7 v8 v9 v10); (obtain ⟨u0, u1, -, u3, -, -⟩ := (Lies.below LSq.out Z.out (Lies.lt LSq.out)).cells6); (obtain ⟨v0, v1, v2, v3, v4, v5, v6, v7, v8, v9, v10⟩ := (Lies.below LN3.out Z.out (Lies.lt LN3.out)).cells11); (have hy1 : wb.heap.size ≠ gs := Nat.ne_of_gt (Nat.lt_of_lt_of_le LSq.out.lt Z.out.size)); (have hy2 : wb.heap.size ≠ gC + 1 := Nat.ne_of_gt (Nat.lt_of_lt_of_le LN3.out.lt Z.out.size)); (clear hnf hyk hb))
              | (go_at_call 26; (with_reducible refine (D21.out ((x3.alloc (.cells #[.int .u8 (IntKind.u8.wrap (nt : Int))] 5)).alloc (.cells #[.int .u32 0, .slice none 0 0] 25)).drew ((Z.out.alloc Z.out.size (.cells #[.int .u8 (IntKind.u8.wrap (nt : Int))] 5)).alloc (Z.out.alloc Z.out.size (.cells #[.int .u8 (IntKind.u8.wrap (nt : Int))] 5)).size (.cells #[.int .u32 0, .slice none 0 0] 25)).drew _ (Bys.drew (Bys.below (BYW.out x3) (below1 _ (.cells #[.int .u32 0, .slice none 0 0] 25))))).mono ?_); (rintro x wb ⟨A6, c6, Y6, rfl, hnf, hyk, hb⟩); (have LZ2 := Lib.hid (Lies.below (Lies.drew (LMW2.out x3)) hb (Lies.lt (LMW2.out x3)))); (have GZ := Lib.hid (Nat.le_succ x3.heap.size)); (obtain ⟨zc0, zc1⟩ := LZ2.out.cells2); (obtain ⟨zf0, zf1⟩ := LZ2.out.free2); (have NF6 := Lib.hid (hnf.mono (((Z.out.alloc Z.out.size (.cells #[.int .u8 (IntKind.u8.wrap (nt : Int))] 5)).alloc (Z.out.alloc Z.out.size (.cells #[.int .u8 (IntKind.u8.wrap (nt : Int))] 5)).size (.cells #[.int .u32 0, .slice none 0 0] 25)).size))); (have HY6 := Lib.hid hyk); (have Z := Lib.hid (((Z.out.alloc Z.out.size (.cells #[.int .u8 (IntKind.u8.wrap (nt : Int))] 5)).alloc (Z.out.alloc Z.out.size (.cells #[.int .u8 (IntKind.u8.wrap (nt : Int))] 5)).size (.cells #[.int .u32 0, .slice none 0 0] 25)).drew.trans (hb.mono ((Z.out.alloc Z.out.size (.cells #[.int .u8 (IntKind.u8.wrap (nt : Int))] 5)).alloc (Z.out.alloc Z.out.size (.cells #[.int .u8 (IntKind.u8.wrap (nt : Int))] 5)).size (.cells #[.int .u32 0, .slice none 0 0] 25)).size))); (clear u0 u1 u3 v0 v1 v2 v3 v4 v5 v6 v7 v8 v9 v10); (obtain ⟨u0, u1, -, u3, -, -⟩ := (Lies.below LSq.out Z.out (Lies.lt LSq.out)).cells6); (obtain ⟨v0, v1, v2, v3, v4, v5, v6, v7, v8, v9, v10⟩ := (Lies.below LN3.out Z.out (Lies.lt LN3.out)).cells11); (have hy1 : wb.heap.size ≠ gs := Nat.ne_of_gt (Nat.lt_of_lt_of_le LSq.out.lt Z.out.size)); (have hy2 : wb.heap.size ≠ gC + 1 := Nat.ne_of_gt (Nat.lt_of_lt_of_le LN3.out.lt Z.out.size)); (clear hnf hyk hb)))
            all_goals
              go_wp2_with fail
              go_meet
              first
              | (with_reducible exact ⟨rfl, _, _, _, Y6, rfl, (Lies.put2 LZ2.out _ _), (NF.put2 NF6.out LZ2.out _ _), HY6.out, GZ.out, (below_put2 Z.out GZ.out _ _)⟩)
              | (with_reducible exact ⟨rfl, _, _, _, Y6, rfl, (Lies.made wb 25 #[.int .u32 (E : Int), .slice A6 (n + 1) c6]), (NF.below NF6.out (below1 _ _)), HY6.out, Z.out.size, (Z.out.alloc Z.out.size (.cells #[.int .u32 (E : Int), .slice A6 (n + 1) c6] 25))⟩)
        case rest =>
          obtain ⟨rfl, g5, A6, c6, Y6, rfl, hL5, hN5, hY5, hg5, hBy⟩ := hcut
          generalize wc = x5 at *
          have SM5 := Lib.hid (SM3.out.below hBy)
          have LN5 := Lib.hid (LN3.out.below hBy LN3.out.lt)
          have LF5 := Lib.hid hL5
          have NF5 := Lib.hid hN5
          have HY5 := Lib.hid hY5
          have HG5 := Lib.hid (show g5 ≠ gs by have := LSq.out.lt; omega)
          have LS5 : Hid (Lies x5 gs 62 #[.int .u32 (ep : Int), .slice A n c, .slice Da nd dc, .slice Ta nt tc, .slice Oa no oc, .bool false]) := Lib.hid SM5.out.box
          have SM6 : Hid (SM w0 gs (⟨E, A6, (n + 1), c6, Y6, Da, nd, dc, D, Ta, nt, tc, U, Oa, no, oc, Ov⟩ : St) ((x5.setCell ⟨gs, 0, none⟩ (.int .u32 (E : Int))).setCell ⟨gs, 1, none⟩ (.slice A6 (n + 1) c6))) := Lib.hid (SM.fence SM5.out SM3.out NF5.out)
          have LF6 : Hid (Lies ((x5.setCell ⟨gs, 0, none⟩ (.int .u32 (E : Int))).setCell ⟨gs, 1, none⟩ (.slice A6 (n + 1) c6)) g5 25 #[.int .u32 (E : Int), .slice A6 (n + 1) c6]) := Lib.hid ((LF5.out.other (a := ⟨gs, 0, none⟩) HG5.out _).other (a := ⟨gs, 1, none⟩) HG5.out _)
          have LN6 : Hid (Lies ((x5.setCell ⟨gs, 0, none⟩ (.int .u32 (E : Int))).setCell ⟨gs, 1, none⟩ (.slice A6 (n + 1) c6)) (gC + 1) 29 #[.int .i64 7, .int .u32 (E : Int), .int .u32 0, .int .u64 0, .int .u64 0, .int .u32 (O : Int), .int .i64 S, .bool un, .int .i64 0, .slice none 0 0, .slice Ad ld cd]) := Lib.hid ((LN5.out.other (a := ⟨gs, 0, none⟩) (show gC + 1 ≠ gs by have := HGN.out; omega) _).other (a := ⟨gs, 1, none⟩) (show gC + 1 ≠ gs by have := HGN.out; omega) _)
          have HF6 : Hid (FV ((x5.setCell ⟨gs, 0, none⟩ (.int .u32 (E : Int))).setCell ⟨gs, 1, none⟩ (.slice A6 (n + 1) c6)) A6 (n + 1) c6 (ins (pos (fun i => (Y i).k) (kn O S un) n) ⟨O, S, un, l, 2, [nt]⟩ (fun i => (Y i).k))) := Lib.hid (SM6.out.fv.congr HY5.out)
          have D25 := Lib.hid (find_st E A6 (n + 1) c6 (ins (pos (fun i => (Y i).k) (kn O S un) n) ⟨O, S, un, l, 2, [nt]⟩ (fun i => (Y i).k)) O S un ld l 2 nt ((x5.setCell ⟨gs, 0, none⟩ (.int .u32 (E : Int))).setCell ⟨gs, 1, none⟩ (.slice A6 (n + 1) c6)) HF6.out HLD.out H64.out HFN.out.1 HFN.out.2)
          have tE : ((E : Int) != (E : Int)) = false := by simp
          have dE : decide ((E : Int) < (ep : Int)) = false := by have := HNS.out; rw [decide_eq_false_iff_not]; omega
          have dE2 : decide (E < ep) = false := by have := HNS.out; rw [decide_eq_false_iff_not]; omega
          clear u0 u1 u3 v0 v1 v2 v3 v4 v5 v6 v7 v8 v9 v10 hz1 hz2 hz3 hz4 Z hL5 hN5 hY5 hg5 hBy D21 BYW BYW2 LMW2
          obtain ⟨a0, a1⟩ := LF5.out.cells2
          obtain ⟨v0, v1, v2, v3, v4, v5, v6, v7, v8, v9, v10⟩ := LN5.out.cells11
          obtain ⟨m0, m1, m2, m3, m4, m5⟩ := LS5.out.cells6
          obtain ⟨f0, f1, f2, f3, f4, f5⟩ := LS5.out.free6
          obtain ⟨b0, b1⟩ := LF6.out.cells2
          obtain ⟨-, -, -, -, -, y5, y6, y7, -, -, -⟩ := LN6.out.cells11
          obtain ⟨h0, h1, h2, h3, h4, h5⟩ := Lies.free6 (Lies.put LS5.out 0 (.int .u32 (E : Int)))
          go_wp2_with fail
          with_reducible refine D25.out.mono ?_
          clear a0 a1 v0 v1 v2 v3 v4 v5 v6 v7 v8 v9 v10 m0 m1 m2 m3 m4 m5 f0 f1 f2 f3 f4 f5 b0 b1 y5 y6 y7 h0 h1 h2 h3 h4 h5 tE dE dE2 D25
          obtain ⟨x6, hx6⟩ : ∃ z, z = ((x5.setCell ⟨gs, 0, none⟩ (.int .u32 (E : Int))).setCell ⟨gs, 1, none⟩ (.slice A6 (n + 1) c6)) := ⟨_, rfl⟩
          rw [← hx6]
          rw [← hx6] at SM6 LN6 HF6
          clear hx6 LF6 SM5 LN5 LF5 NF5 LS5
          rintro x w7 ⟨fA, fd, fB, fe, rfl, oA, oB, hb⟩
          have SM7 : Hid (SM w0 gs (⟨E, A6, (n + 1), c6, Y6, Da, nd, dc, D, Ta, nt, tc, U, Oa, no, oc, Ov⟩ : St) (w7.alloc (.cells #[.int .u32 (O : Int), .int .i64 S, .bool un, .slice fA ld fd, .int .i64 2, .slice fB 1 fe] 34))) := Lib.hid ((SM6.out.below hb).alloc _)
          have LS7 : Hid (Lies (w7.alloc (.cells #[.int .u32 (O : Int), .int .i64 S, .bool un, .slice fA ld fd, .int .i64 2, .slice fB 1 fe] 34)) gs 62 #[.int .u32 (E : Int), .slice A6 (n + 1) c6, .slice Da nd dc, .slice Ta nt tc, .slice Oa no oc, .bool false]) := Lib.hid SM7.out.box
          have LN7 : Hid (Lies (w7.alloc (.cells #[.int .u32 (O : Int), .int .i64 S, .bool un, .slice fA ld fd, .int .i64 2, .slice fB 1 fe] 34)) (gC + 1) 29 #[.int .i64 7, .int .u32 (E : Int), .int .u32 0, .int .u64 0, .int .u64 0, .int .u32 (O : Int), .int .i64 S, .bool un, .int .i64 0, .slice none 0 0, .slice Ad ld cd]) := Lib.hid ((LN6.out.below hb LN6.out.lt).alloc _)
          have LK7 : Hid (Lies (w7.alloc (.cells #[.int .u32 (O : Int), .int .i64 S, .bool un, .slice fA ld fd, .int .i64 2, .slice fB 1 fe] 34)) w7.heap.size 34 #[.int .u32 (O : Int), .int .i64 S, .bool un, .slice fA ld fd, .int .i64 2, .slice fB 1 fe]) := Lib.hid (Lies.made w7 34 #[.int .u32 (O : Int), .int .i64 S, .bool un, .slice fA ld fd, .int .i64 2, .slice fB 1 fe])
          have OA7 : Hid (Own (w7.alloc (.cells #[.int .u32 (O : Int), .int .i64 S, .bool un, .slice fA ld fd, .int .i64 2, .slice fB 1 fe] 34)) (gs + 1) (.slice fA ld fd) l) := Lib.hid ((oA.mono SM6.out.lt).alloc _)
          have OB7 : Hid (Own (w7.alloc (.cells #[.int .u32 (O : Int), .int .i64 S, .bool un, .slice fA ld fd, .int .i64 2, .slice fB 1 fe] 34)) (gs + 1) (.slice fB 1 fe) [nt]) := Lib.hid ((oB.mono SM6.out.lt).alloc _)
          have HKt := Lib.hid (fun k (hk : (Value.slice Ta nt tc).ownBlock = some k) => Nat.lt_of_lt_of_le (SM6.out.t.row.blockLt k hk) hb.size)
          have HKo := Lib.hid (fun k (hk : (Value.slice Oa no oc).ownBlock = some k) => Nat.lt_of_lt_of_le (SM6.out.o.row.blockLt k hk) hb.size)
          have HKg := Lib.hid (Nat.lt_of_lt_of_le SM6.out.lt hb.size)
          clear oA oB hb SM6 LN6 HF6
          obtain ⟨m0, m1, m2, m3, m4, m5⟩ := LS7.out.cells6
          obtain ⟨f0, f1, f2, f3, f4, f5⟩ := LS7.out.free6
          obtain ⟨k0, k1, k2, k3, k4, k5⟩ := LK7.out.cells6
          go_wp2_with fail
          rw [setCell_same LS7.out rfl]
          clear m0 m1 m2 m3 m4 m5 f0 f1 f2 f3 f4 f5 k0 k1 k2 k3 k4 k5
          skip
          skip
          obtain ⟨x7, hx7⟩ : ∃ z, z = (w7.alloc (.cells #[.int .u32 (O : Int), .int .i64 S, .bool un, .slice fA ld fd, .int .i64 2, .slice fB 1 fe] 34)) := ⟨_, rfl⟩
          rw [← hx7]
          rw [← hx7] at SM7 LN7 LK7 OA7 OB7
          clear hx7 LS7
          obtain ⟨gF, hgF⟩ : ∃ g, g = w7.heap.size := ⟨_, rfl⟩
          rw [← hgF]
          rw [← hgF] at LK7 HKt HKo HKg
          clear hgF
          have OA8 : Hid (Own x7 (gs + 1) (.slice fA ld fd) (⟨O, S, un, l, 2, [nt]⟩ : Kp).a) := OA7
          have OB8 : Hid (Own x7 (gs + 1) (.slice fB 1 fe) (⟨O, S, un, l, 2, [nt]⟩ : Kp).r) := OB7
          go_cut [14] (fun s14 W => s14 = .bool true ∧ ∃ g8 cap8, SM w0 gs (⟨E, A6, (n + 1), c6, Y6, Da, nd, dc, D, (some ⟨g8, 0, none⟩), (nt + 1), cap8, (snoc nt U ⟨⟨O, S, un, l, 2, [nt]⟩, .slice fA ld fd, .slice fB 1 fe⟩), Oa, no, oc, Ov⟩ : St) W ∧ Lies W (gC + 1) 29 #[.int .i64 7, .int .u32 (E : Int), .int .u32 0, .int .u64 0, .int .u64 0, .int .u32 (O : Int), .int .i64 S, .bool un, .int .i64 0, .slice none 0 0, .slice Ad ld cd] ∧ Lies W gF 34 #[.int .u32 (O : Int), .int .i64 S, .bool un, .slice fA ld fd, .int .i64 2, .slice fB 1 fe])
          case first =>
            have LSx : Hid (Lies x7 gs 62 #[.int .u32 (E : Int), .slice A6 (n + 1) c6, .slice Da nd dc, .slice Ta nt tc, .slice Oa no oc, .bool false]) := Lib.hid SM7.out.box
            obtain ⟨gl0, gl1, gl2, gl3, gl4, gl5⟩ := LSx.out.cells6
            obtain ⟨gf0, gf1, gf2, gf3, gf4, gf5⟩ := LSx.out.free6
            obtain ⟨-, -, ga2, ga3, ga4, -⟩ := Lies.cells6 (LSx.out.alloc (.cells #[.int .u32 (O : Int), .int .i64 S, .bool un, .slice fA ld fd, .int .i64 2, .slice fB 1 fe] 34))
            have GA := Lib.hid ga3
            clear ga2 ga3 ga4
            have HGL := Lib.hid (show gs + 1 ≤ (x7.alloc (.cells #[.int .u32 (O : Int), .int .i64 S, .bool un, .slice fA ld fd, .int .i64 2, .slice fB 1 fe] 34)).heap.size from Nat.le_trans LSx.out.lt (by simp))
            refine wp_region_noPanic ?_
            refine wp_region_held_drew (S := fun W => W.cell? ⟨gF, 0, none⟩ = some (.int .u32 (O : Int)) ∧ W.cell? ⟨gF, 1, none⟩ = some (.int .i64 S) ∧ W.cell? ⟨gF, 2, none⟩ = some (.bool un) ∧ W.cell? ⟨gF, 3, none⟩ = some (.slice fA ld fd) ∧ W.cell? ⟨gF, 4, none⟩ = some (.int .i64 2) ∧ W.cell? ⟨gF, 5, none⟩ = some (.slice fB 1 fe)) (by kernel_rfl) (LK7.out.cells6) (fun hH0 => ?_)
            refine any_take 0 230 ?vc41x0 rfl rfl (by kernel_rfl) (by kernel_rfl) (by kernel_rfl) (fun _ _ _ h => h) (by rfl) ?hyc41x0 hH0 ?restc41x0
            case hyc41x0 => ((intro W hSw); obtain ⟨s0, s1, s2, s3, s4, s5⟩ := hSw; go_simp; (try with_reducible rfl))
            try simp only [Act.put, List.setIfInBounds_toArray, List.set_cons_zero, List.set_cons_succ]
            refine any_take 1 231 ?vc41x1 rfl rfl (by kernel_rfl) (by kernel_rfl) (by kernel_rfl) (fun _ _ _ h => h) (by rfl) ?hyc41x1 hH0 ?restc41x1
            case hyc41x1 => ((intro W hSw); obtain ⟨s0, s1, s2, s3, s4, s5⟩ := hSw; go_simp; (try with_reducible rfl))
            try simp only [Act.put, List.setIfInBounds_toArray, List.set_cons_zero, List.set_cons_succ]
            refine any_take 2 232 ?vc41x2 rfl rfl (by kernel_rfl) (by kernel_rfl) (by kernel_rfl) (fun _ _ _ h => h) (by rfl) ?hyc41x2 hH0 ?restc41x2
            case hyc41x2 => ((intro W hSw); obtain ⟨s0, s1, s2, s3, s4, s5⟩ := hSw; go_simp; (try with_reducible rfl))
            try simp only [Act.put, List.setIfInBounds_toArray, List.set_cons_zero, List.set_cons_succ]
            refine any_take 3 233 ?vc41x3 rfl rfl (by kernel_rfl) (by kernel_rfl) (by kernel_rfl) (fun _ _ _ h => h) (by rfl) ?hyc41x3 hH0 ?restc41x3
            case hyc41x3 => ((intro W hSw); obtain ⟨s0, s1, s2, s3, s4, s5⟩ := hSw; go_simp; (try with_reducible rfl))
            try simp only [Act.put, List.setIfInBounds_toArray, List.set_cons_zero, List.set_cons_succ]
            refine any_take 5 235 ?vc41x5 rfl rfl (by kernel_rfl) (by kernel_rfl) (by kernel_rfl) (fun _ _ _ h => h) (by rfl) ?hyc41x5 hH0 ?restc41x5
            case hyc41x5 => ((intro W hSw); obtain ⟨s0, s1, s2, s3, s4, s5⟩ := hSw; go_simp; (try with_reducible rfl))
            try simp only [Act.put, List.setIfInBounds_toArray, List.set_cons_zero, List.set_cons_succ]
            refine wpAnyH_ready (rs := [4, 6]) (by kernel_rfl) (by simp) ?_
            refine AllReadyH.cons rfl (fun K hK => ?_) (AllReadyH.cons rfl (fun K hK => ?_) AllReadyH.nil)
            · go_simp
              refine hK.out _ _ (LK7.out.cells6) (fun hH1 => ?_)
              clear hK K hH0
              try simp only [Act.put, List.setIfInBounds_toArray, List.set_cons_zero, List.set_cons_succ]
              refine wpAnyH_ready (rs := [6]) (by kernel_rfl) (by simp) ?_
              refine AllReadyH.cons rfl (fun K hK => ?_) AllReadyH.nil
              go_simp
              refine hK.out _ _ (Lies.cells6 (LK7.out.alloc (.cells #[.int .u32 (O : Int), .int .i64 S, .bool un, .slice fA ld fd, .int .i64 2, .slice fB 1 fe] 34))) (fun hH2 => ?_)
              clear hK K hH1
              try simp only [Act.put, List.setIfInBounds_toArray, List.set_cons_zero, List.set_cons_succ]
              refine wpAnyH_ready (rs := [7]) (by kernel_rfl) (by simp) ?_
              refine AllReadyH.cons rfl (fun K hK => ?_) AllReadyH.nil
              refine stp_appendK (some 237) _ _ _ (.tmp 234) (.tmp 236) (gs + 1) (.slice Ta nt tc) nt U x7.heap.size ⟨⟨O, S, un, l, 2, [nt]⟩, .slice fA ld fd, .slice fB 1 fe⟩ rfl rfl (OwnK.drew (SM7.out.t.row.alloc (.cells #[.int .u32 (O : Int), .int .i64 S, .bool un, .slice fA ld fd, .int .i64 2, .slice fB 1 fe] 34))) (Lies.drew (Lies.made x7 34 #[.int .u32 (O : Int), .int .i64 S, .bool un, .slice fA ld fd, .int .i64 2, .slice fB 1 fe])) ⟨rfl, rfl⟩ (by have := HNN.out.2.1; omega) HGL.out ?_
              intro gg cap w9 ho9 hg9 hb9
              have LK9 := Lib.hid (Lies.grown (Lies.drew (LK7.out.alloc (.cells #[.int .u32 (O : Int), .int .i64 S, .bool un, .slice fA ld fd, .int .i64 2, .slice fB 1 fe] 34))) hg9 (fun q => by have := HKt.out _ q.symm; omega))
              have LN9 := Lib.hid (Lies.grown (Lies.drew (LN7.out.alloc (.cells #[.int .u32 (O : Int), .int .i64 S, .bool un, .slice fA ld fd, .int .i64 2, .slice fB 1 fe] 34))) hg9 (SM7.out.t.row.ne LN7.out (by decide)))
              have SMn := Lib.hid (SM.told (y := ⟨⟨O, S, un, l, 2, [nt]⟩, .slice fA ld fd, .slice fB 1 fe⟩) (SM.drew (SM7.out.alloc (.cells #[.int .u32 (O : Int), .int .i64 S, .bool un, .slice fA ld fd, .int .i64 2, .slice fB 1 fe] 34))) (Own.drew (OA8.out.alloc _)) (Own.drew (OB8.out.alloc _)) ⟨HON.out, H64.out, (show in64 2 by unfold in64; decide)⟩ ho9 hg9 hb9)
              have LS9 := Lib.hid (Lies.grown (Lies.drew (LSx.out.alloc (.cells #[.int .u32 (O : Int), .int .i64 S, .bool un, .slice fA ld fd, .int .i64 2, .slice fB 1 fe] 34))) hg9 (fun q => by have := (SM7.out.t.row).block _ q.symm; omega))
              clear ho9 hg9 hb9
              obtain ⟨t0, t1, t2, t3, t4, t5⟩ := LS9.out.cells6
              obtain ⟨r0, r1, r2, r3, r4, r5⟩ := LS9.out.free6
              refine hK.out _ _ (LK9.out.cells6) (fun hH3 => ?_)
              clear hK K hH2
              try simp only [Act.put, List.setIfInBounds_toArray, List.set_cons_zero, List.set_cons_succ]
              refine any_take 8 238 ?vc42x8 rfl rfl (by kernel_rfl) (by kernel_rfl) (by kernel_rfl) (fun _ _ _ h => h) (by rfl) ?hyc42x8 hH3 ?restc42x8
              case hyc42x8 => ((intro W hSw); obtain ⟨s0, s1, s2, s3, s4, s5⟩ := hSw; go_simp; (try with_reducible rfl))
              try simp only [Act.put, List.setIfInBounds_toArray, List.set_cons_zero, List.set_cons_succ]
              refine any_take 9 239 ?vc42x9 rfl rfl (by kernel_rfl) (by kernel_rfl) (by kernel_rfl) (fun _ _ _ h => h) (by rfl) ?hyc42x9 hH3 ?restc42x9
              case hyc42x9 => ((intro W hSw); obtain ⟨s0, s1, s2, s3, s4, s5⟩ := hSw; go_simp; (try with_reducible rfl))
              try simp only [Act.put, List.setIfInBounds_toArray, List.set_cons_zero, List.set_cons_succ]
              refine wpAnyH_ready (rs := [10]) (by kernel_rfl) (by simp) ?_
              refine AllReadyH.cons rfl (fun K hK => ?_) AllReadyH.nil
              go_simp
              have LKn := Lib.hid (LK9.out.other (a := ⟨gs, 3, none⟩) (show gF ≠ gs by have := HKg.out; omega) (.slice (some ⟨gg, 0, none⟩) (nt + 1) cap))
              have LNn := Lib.hid (LN9.out.other (a := ⟨gs, 3, none⟩) (show gC + 1 ≠ gs by have := HGN.out; omega) (.slice (some ⟨gg, 0, none⟩) (nt + 1) cap))
              refine hK.out _ _ (LKn.out.cells6) (fun hH4 => ?_)
              clear hK K hH3 hH4
              try simp only [Act.put, List.setIfInBounds_toArray, List.set_cons_zero, List.set_cons_succ]
              refine wpAnyH_done (by kernel_rfl) ?_ _
              refine NoPanic.normal ?_
              clear t0 t1 t2 t3 t4 t5 r0 r1 r2 r3 r4 r5 gl0 gl1 gl2 gl3 gl4 gl5 gf0 gf1 gf2 gf3 gf4 gf5 GA LS9
              go_wp2_with fail
              go_meet
              exact ⟨rfl, gg, cap, SMn.out, LNn.out, LKn.out⟩
            · go_simp
              refine hK.out _ _ (Lies.cells6 (LK7.out.alloc (.cells #[.int .u32 (O : Int), .int .i64 S, .bool un, .slice fA ld fd, .int .i64 2, .slice fB 1 fe] 34))) (fun hH1 => ?_)
              clear hK K hH0
              try simp only [Act.put, List.setIfInBounds_toArray, List.set_cons_zero, List.set_cons_succ]
              have e5 := GA.out
              refine wpAnyH_ready (rs := [4]) (by kernel_rfl) (by simp) ?_
              refine AllReadyH.cons rfl (fun K hK => ?_) AllReadyH.nil
              go_simp
              refine hK.out _ _ (Lies.cells6 (LK7.out.alloc (.cells #[.int .u32 (O : Int), .int .i64 S, .bool un, .slice fA ld fd, .int .i64 2, .slice fB 1 fe] 34))) (fun hH2 => ?_)
              clear hK K hH1
              try simp only [Act.put, List.setIfInBounds_toArray, List.set_cons_zero, List.set_cons_succ]
              clear e5
              refine wpAnyH_ready (rs := [7]) (by kernel_rfl) (by simp) ?_
              refine AllReadyH.cons rfl (fun K hK => ?_) AllReadyH.nil
              refine stp_appendK (some 237) _ _ _ (.tmp 234) (.tmp 236) (gs + 1) (.slice Ta nt tc) nt U x7.heap.size ⟨⟨O, S, un, l, 2, [nt]⟩, .slice fA ld fd, .slice fB 1 fe⟩ rfl rfl (OwnK.drew (SM7.out.t.row.alloc (.cells #[.int .u32 (O : Int), .int .i64 S, .bool un, .slice fA ld fd, .int .i64 2, .slice fB 1 fe] 34))) (Lies.drew (Lies.made x7 34 #[.int .u32 (O : Int), .int .i64 S, .bool un, .slice fA ld fd, .int .i64 2, .slice fB 1 fe])) ⟨rfl, rfl⟩ (by have := HNN.out.2.1; omega) HGL.out ?_
              intro gg cap w9 ho9 hg9 hb9
              have LK9 := Lib.hid (Lies.grown (Lies.drew (LK7.out.alloc (.cells #[.int .u32 (O : Int), .int .i64 S, .bool un, .slice fA ld fd, .int .i64 2, .slice fB 1 fe] 34))) hg9 (fun q => by have := HKt.out _ q.symm; omega))
              have LN9 := Lib.hid (Lies.grown (Lies.drew (LN7.out.alloc (.cells #[.int .u32 (O : Int), .int .i64 S, .bool un, .slice fA ld fd, .int .i64 2, .slice fB 1 fe] 34))) hg9 (SM7.out.t.row.ne LN7.out (by decide)))
              have SMn := Lib.hid (SM.told (y := ⟨⟨O, S, un, l, 2, [nt]⟩, .slice fA ld fd, .slice fB 1 fe⟩) (SM.drew (SM7.out.alloc (.cells #[.int .u32 (O : Int), .int .i64 S, .bool un, .slice fA ld fd, .int .i64 2, .slice fB 1 fe] 34))) (Own.drew (OA8.out.alloc _)) (Own.drew (OB8.out.alloc _)) ⟨HON.out, H64.out, (show in64 2 by unfold in64; decide)⟩ ho9 hg9 hb9)
              have LS9 := Lib.hid (Lies.grown (Lies.drew (LSx.out.alloc (.cells #[.int .u32 (O : Int), .int .i64 S, .bool un, .slice fA ld fd, .int .i64 2, .slice fB 1 fe] 34))) hg9 (fun q => by have := (SM7.out.t.row).block _ q.symm; omega))
              clear ho9 hg9 hb9
              obtain ⟨t0, t1, t2, t3, t4, t5⟩ := LS9.out.cells6
              obtain ⟨r0, r1, r2, r3, r4, r5⟩ := LS9.out.free6
              refine hK.out _ _ (LK9.out.cells6) (fun hH3 => ?_)
              clear hK K hH2
              try simp only [Act.put, List.setIfInBounds_toArray, List.set_cons_zero, List.set_cons_succ]
              refine any_take 8 238 ?vc43x8 rfl rfl (by kernel_rfl) (by kernel_rfl) (by kernel_rfl) (fun _ _ _ h => h) (by rfl) ?hyc43x8 hH3 ?restc43x8
              case hyc43x8 => ((intro W hSw); obtain ⟨s0, s1, s2, s3, s4, s5⟩ := hSw; go_simp; (try with_reducible rfl))
              try simp only [Act.put, List.setIfInBounds_toArray, List.set_cons_zero, List.set_cons_succ]
              refine any_take 9 239 ?vc43x9 rfl rfl (by kernel_rfl) (by kernel_rfl) (by kernel_rfl) (fun _ _ _ h => h) (by rfl) ?hyc43x9 hH3 ?restc43x9
              case hyc43x9 => ((intro W hSw); obtain ⟨s0, s1, s2, s3, s4, s5⟩ := hSw; go_simp; (try with_reducible rfl))
              try simp only [Act.put, List.setIfInBounds_toArray, List.set_cons_zero, List.set_cons_succ]
              refine wpAnyH_ready (rs := [10]) (by kernel_rfl) (by simp) ?_
              refine AllReadyH.cons rfl (fun K hK => ?_) AllReadyH.nil
              go_simp
              have LKn := Lib.hid (LK9.out.other (a := ⟨gs, 3, none⟩) (show gF ≠ gs by have := HKg.out; omega) (.slice (some ⟨gg, 0, none⟩) (nt + 1) cap))
              have LNn := Lib.hid (LN9.out.other (a := ⟨gs, 3, none⟩) (show gC + 1 ≠ gs by have := HGN.out; omega) (.slice (some ⟨gg, 0, none⟩) (nt + 1) cap))
              refine hK.out _ _ (LKn.out.cells6) (fun hH4 => ?_)
              clear hK K hH3 hH4
              try simp only [Act.put, List.setIfInBounds_toArray, List.set_cons_zero, List.set_cons_succ]
              refine wpAnyH_done (by kernel_rfl) ?_ _
              refine NoPanic.normal ?_
              clear t0 t1 t2 t3 t4 t5 r0 r1 r2 r3 r4 r5 gl0 gl1 gl2 gl3 gl4 gl5 gf0 gf1 gf2 gf3 gf4 gf5 GA LS9
              go_wp2_with fail
              go_meet
              exact ⟨rfl, gg, cap, SMn.out, LNn.out, LKn.out⟩
          case rest =>
            obtain ⟨rfl, g8, cap8, hs8, hl8, hk8⟩ := hcut
            generalize wc = x8 at *
            have SM8 := Lib.hid hs8
            have LN8 := Lib.hid hl8
            have LK8 := Lib.hid hk8
            have OA9 : Hid (Own x8 (gs + 1) (.slice fA ld fd) l) := Lib.hid (by have h := hs8.t.a nt (Nat.lt_succ_self nt); dsimp only at h; rw [snoc_at] at h; exact h)
            have OB9 : Hid (Own x8 (gs + 1) (.slice fB 1 fe) [nt]) := Lib.hid (by have h := hs8.t.r nt (Nat.lt_succ_self nt); dsimp only at h; rw [snoc_at] at h; exact h)
            clear hs8 hl8 hk8 SM7 LN7 LK7 OA7 OB7 OA8 OB8
            obtain ⟨-, -, -, -, -, -, -, v7, -, -, -⟩ := LN8.out.cells11
            cases un
            · go_wp2
              go_end0
              exact ⟨rfl, _, SM8.out, HIK.out.congr (fun i hi => (HY5.out i hi).symm) (fun i hi => rfl) (fun i hi => (snoc_congr (m := nt) (X := U) (x := ⟨⟨O, S, false, l, 2, [nt]⟩, .slice fA ld fd, .slice fB 1 fe⟩)).symm) (fun i hi => rfl), by simp, by simp, by simp, by simp⟩
            · have OAt : Hid (Own x8 (gs + 1) (.slice fA ld fd) (⟨O, S, true, l, 2, [nt]⟩ : Kp).a) := OA9
              have OBt : Hid (Own x8 (gs + 1) (.slice fB 1 fe) (⟨O, S, true, l, 2, [nt]⟩ : Kp).r) := OB9
              go_wp2_with fail
              clear v7
              have LSx : Hid (Lies x8 gs 62 #[.int .u32 (E : Int), .slice A6 (n + 1) c6, .slice Da nd dc, .slice (some ⟨g8, 0, none⟩) (nt + 1) cap8, .slice Oa no oc, .bool false]) := Lib.hid SM8.out.box
              obtain ⟨gl0, gl1, gl2, gl3, gl4, gl5⟩ := LSx.out.cells6
              obtain ⟨gf0, gf1, gf2, gf3, gf4, gf5⟩ := LSx.out.free6
              obtain ⟨-, -, ga2, ga3, ga4, -⟩ := Lies.cells6 (LSx.out.alloc (.cells #[.int .u32 (O : Int), .int .i64 S, .bool true, .slice fA ld fd, .int .i64 2, .slice fB 1 fe] 34))
              have GA := Lib.hid ga4
              clear ga2 ga3 ga4
              have HGL := Lib.hid (show gs + 1 ≤ (x8.alloc (.cells #[.int .u32 (O : Int), .int .i64 S, .bool true, .slice fA ld fd, .int .i64 2, .slice fB 1 fe] 34)).heap.size from Nat.le_trans LSx.out.lt (by simp))
              refine wp_region_noPanic ?_
              refine wp_region_held_drew (S := fun W => W.cell? ⟨gF, 0, none⟩ = some (.int .u32 (O : Int)) ∧ W.cell? ⟨gF, 1, none⟩ = some (.int .i64 S) ∧ W.cell? ⟨gF, 2, none⟩ = some (.bool true) ∧ W.cell? ⟨gF, 3, none⟩ = some (.slice fA ld fd) ∧ W.cell? ⟨gF, 4, none⟩ = some (.int .i64 2) ∧ W.cell? ⟨gF, 5, none⟩ = some (.slice fB 1 fe)) (by kernel_rfl) (LK8.out.cells6) (fun hH0 => ?_)
              refine any_take 0 242 ?vc44x0 rfl rfl (by kernel_rfl) (by kernel_rfl) (by kernel_rfl) (fun _ _ _ h => h) (by rfl) ?hyc44x0 hH0 ?restc44x0
              case hyc44x0 => ((intro W hSw); obtain ⟨s0, s1, s2, s3, s4, s5⟩ := hSw; go_simp; (try with_reducible rfl))
              try simp only [Act.put, List.setIfInBounds_toArray, List.set_cons_zero, List.set_cons_succ]
              refine any_take 1 243 ?vc44x1 rfl rfl (by kernel_rfl) (by kernel_rfl) (by kernel_rfl) (fun _ _ _ h => h) (by rfl) ?hyc44x1 hH0 ?restc44x1
              case hyc44x1 => ((intro W hSw); obtain ⟨s0, s1, s2, s3, s4, s5⟩ := hSw; go_simp; (try with_reducible rfl))
              try simp only [Act.put, List.setIfInBounds_toArray, List.set_cons_zero, List.set_cons_succ]
              refine any_take 2 244 ?vc44x2 rfl rfl (by kernel_rfl) (by kernel_rfl) (by kernel_rfl) (fun _ _ _ h => h) (by rfl) ?hyc44x2 hH0 ?restc44x2
              case hyc44x2 => ((intro W hSw); obtain ⟨s0, s1, s2, s3, s4, s5⟩ := hSw; go_simp; (try with_reducible rfl))
              try simp only [Act.put, List.setIfInBounds_toArray, List.set_cons_zero, List.set_cons_succ]
              refine any_take 3 245 ?vc44x3 rfl rfl (by kernel_rfl) (by kernel_rfl) (by kernel_rfl) (fun _ _ _ h => h) (by rfl) ?hyc44x3 hH0 ?restc44x3
              case hyc44x3 => ((intro W hSw); obtain ⟨s0, s1, s2, s3, s4, s5⟩ := hSw; go_simp; (try with_reducible rfl))
              try simp only [Act.put, List.setIfInBounds_toArray, List.set_cons_zero, List.set_cons_succ]
              refine any_take 5 247 ?vc44x5 rfl rfl (by kernel_rfl) (by kernel_rfl) (by kernel_rfl) (fun _ _ _ h => h) (by rfl) ?hyc44x5 hH0 ?restc44x5
              case hyc44x5 => ((intro W hSw); obtain ⟨s0, s1, s2, s3, s4, s5⟩ := hSw; go_simp; (try with_reducible rfl))
              try simp only [Act.put, List.setIfInBounds_toArray, List.set_cons_zero, List.set_cons_succ]
              refine wpAnyH_ready (rs := [4, 6]) (by kernel_rfl) (by simp) ?_
              refine AllReadyH.cons rfl (fun K hK => ?_) (AllReadyH.cons rfl (fun K hK => ?_) AllReadyH.nil)
              · go_simp
                refine hK.out _ _ (LK8.out.cells6) (fun hH1 => ?_)
                clear hK K hH0
                try simp only [Act.put, List.setIfInBounds_toArray, List.set_cons_zero, List.set_cons_succ]
                refine wpAnyH_ready (rs := [6]) (by kernel_rfl) (by simp) ?_
                refine AllReadyH.cons rfl (fun K hK => ?_) AllReadyH.nil
                go_simp
                refine hK.out _ _ (Lies.cells6 (LK8.out.alloc (.cells #[.int .u32 (O : Int), .int .i64 S, .bool true, .slice fA ld fd, .int .i64 2, .slice fB 1 fe] 34))) (fun hH2 => ?_)
                clear hK K hH1
                try simp only [Act.put, List.setIfInBounds_toArray, List.set_cons_zero, List.set_cons_succ]
                refine wpAnyH_ready (rs := [7]) (by kernel_rfl) (by simp) ?_
                refine AllReadyH.cons rfl (fun K hK => ?_) AllReadyH.nil
                refine stp_appendK (some 249) _ _ _ (.tmp 246) (.tmp 248) (gs + 1) (.slice Oa no oc) no Ov x8.heap.size ⟨⟨O, S, true, l, 2, [nt]⟩, .slice fA ld fd, .slice fB 1 fe⟩ rfl rfl (OwnK.drew (SM8.out.o.row.alloc (.cells #[.int .u32 (O : Int), .int .i64 S, .bool true, .slice fA ld fd, .int .i64 2, .slice fB 1 fe] 34))) (Lies.drew (Lies.made x8 34 #[.int .u32 (O : Int), .int .i64 S, .bool true, .slice fA ld fd, .int .i64 2, .slice fB 1 fe])) ⟨rfl, rfl⟩ (by have := HNN.out.2.2.2; omega) HGL.out ?_
                intro gg cap w9 ho9 hg9 hb9
                have LK9 := Lib.hid (Lies.grown (Lies.drew (LK8.out.alloc (.cells #[.int .u32 (O : Int), .int .i64 S, .bool true, .slice fA ld fd, .int .i64 2, .slice fB 1 fe] 34))) hg9 (fun q => by have := HKo.out _ q.symm; omega))
                have LN9 := Lib.hid (Lies.grown (Lies.drew (LN8.out.alloc (.cells #[.int .u32 (O : Int), .int .i64 S, .bool true, .slice fA ld fd, .int .i64 2, .slice fB 1 fe] 34))) hg9 (SM8.out.o.row.ne LN8.out (by decide)))
                have SMn := Lib.hid (SM.over (y := ⟨⟨O, S, true, l, 2, [nt]⟩, .slice fA ld fd, .slice fB 1 fe⟩) (SM.drew (SM8.out.alloc (.cells #[.int .u32 (O : Int), .int .i64 S, .bool true, .slice fA ld fd, .int .i64 2, .slice fB 1 fe] 34))) (Own.drew (OAt.out.alloc _)) (Own.drew (OBt.out.alloc _)) ⟨HON.out, H64.out, (show in64 2 by unfold in64; decide)⟩ ho9 hg9 hb9)
                have LS9 := Lib.hid (Lies.grown (Lies.drew (LSx.out.alloc (.cells #[.int .u32 (O : Int), .int .i64 S, .bool true, .slice fA ld fd, .int .i64 2, .slice fB 1 fe] 34))) hg9 (fun q => by have := (SM8.out.o.row).block _ q.symm; omega))
                clear ho9 hg9 hb9
                obtain ⟨t0, t1, t2, t3, t4, t5⟩ := LS9.out.cells6
                obtain ⟨r0, r1, r2, r3, r4, r5⟩ := LS9.out.free6
                refine hK.out _ _ (LK9.out.cells6) (fun hH3 => ?_)
                clear hK K hH2
                try simp only [Act.put, List.setIfInBounds_toArray, List.set_cons_zero, List.set_cons_succ]
                refine any_take 8 250 ?vc45x8 rfl rfl (by kernel_rfl) (by kernel_rfl) (by kernel_rfl) (fun _ _ _ h => h) (by rfl) ?hyc45x8 hH3 ?restc45x8
                case hyc45x8 => ((intro W hSw); obtain ⟨s0, s1, s2, s3, s4, s5⟩ := hSw; go_simp; (try with_reducible rfl))
                try simp only [Act.put, List.setIfInBounds_toArray, List.set_cons_zero, List.set_cons_succ]
                refine any_take 9 251 ?vc45x9 rfl rfl (by kernel_rfl) (by kernel_rfl) (by kernel_rfl) (fun _ _ _ h => h) (by rfl) ?hyc45x9 hH3 ?restc45x9
                case hyc45x9 => ((intro W hSw); obtain ⟨s0, s1, s2, s3, s4, s5⟩ := hSw; go_simp; (try with_reducible rfl))
                try simp only [Act.put, List.setIfInBounds_toArray, List.set_cons_zero, List.set_cons_succ]
                refine wpAnyH_ready (rs := [10]) (by kernel_rfl) (by simp) ?_
                refine AllReadyH.cons rfl (fun K hK => ?_) AllReadyH.nil
                go_simp
                have LKn := Lib.hid (LK9.out.other (a := ⟨gs, 4, none⟩) (show gF ≠ gs by have := HKg.out; omega) (.slice (some ⟨gg, 0, none⟩) (no + 1) cap))
                have LNn := Lib.hid (LN9.out.other (a := ⟨gs, 4, none⟩) (show gC + 1 ≠ gs by have := HGN.out; omega) (.slice (some ⟨gg, 0, none⟩) (no + 1) cap))
                refine hK.out _ _ (LKn.out.cells6) (fun hH4 => ?_)
                clear hK K hH3 hH4
                try simp only [Act.put, List.setIfInBounds_toArray, List.set_cons_zero, List.set_cons_succ]
                refine wpAnyH_done (by kernel_rfl) ?_ _
                refine NoPanic.normal ?_
                clear t0 t1 t2 t3 t4 t5 r0 r1 r2 r3 r4 r5 gl0 gl1 gl2 gl3 gl4 gl5 gf0 gf1 gf2 gf3 gf4 gf5 GA LS9
                go_wp2
                go_end0
                exact ⟨rfl, _, SMn.out, HIK.out.congr (fun i hi => (HY5.out i hi).symm) (fun i hi => rfl) (fun i hi => (snoc_congr (m := nt) (X := U) (x := ⟨⟨O, S, true, l, 2, [nt]⟩, .slice fA ld fd, .slice fB 1 fe⟩)).symm) (fun i hi => (snoc_congr (m := no) (X := Ov) (x := ⟨⟨O, S, true, l, 2, [nt]⟩, .slice fA ld fd, .slice fB 1 fe⟩)).symm), by simp, by simp, by simp, by simp⟩
              · go_simp
                refine hK.out _ _ (Lies.cells6 (LK8.out.alloc (.cells #[.int .u32 (O : Int), .int .i64 S, .bool true, .slice fA ld fd, .int .i64 2, .slice fB 1 fe] 34))) (fun hH1 => ?_)
                clear hK K hH0
                try simp only [Act.put, List.setIfInBounds_toArray, List.set_cons_zero, List.set_cons_succ]
                have e5 := GA.out
                refine wpAnyH_ready (rs := [4]) (by kernel_rfl) (by simp) ?_
                refine AllReadyH.cons rfl (fun K hK => ?_) AllReadyH.nil
                go_simp
                refine hK.out _ _ (Lies.cells6 (LK8.out.alloc (.cells #[.int .u32 (O : Int), .int .i64 S, .bool true, .slice fA ld fd, .int .i64 2, .slice fB 1 fe] 34))) (fun hH2 => ?_)
                clear hK K hH1
                try simp only [Act.put, List.setIfInBounds_toArray, List.set_cons_zero, List.set_cons_succ]
                clear e5
                refine wpAnyH_ready (rs := [7]) (by kernel_rfl) (by simp) ?_
                refine AllReadyH.cons rfl (fun K hK => ?_) AllReadyH.nil
                refine stp_appendK (some 249) _ _ _ (.tmp 246) (.tmp 248) (gs + 1) (.slice Oa no oc) no Ov x8.heap.size ⟨⟨O, S, true, l, 2, [nt]⟩, .slice fA ld fd, .slice fB 1 fe⟩ rfl rfl (OwnK.drew (SM8.out.o.row.alloc (.cells #[.int .u32 (O : Int), .int .i64 S, .bool true, .slice fA ld fd, .int .i64 2, .slice fB 1 fe] 34))) (Lies.drew (Lies.made x8 34 #[.int .u32 (O : Int), .int .i64 S, .bool true, .slice fA ld fd, .int .i64 2, .slice fB 1 fe])) ⟨rfl, rfl⟩ (by have := HNN.out.2.2.2; omega) HGL.out ?_
                intro gg cap w9 ho9 hg9 hb9
                have LK9 := Lib.hid (Lies.grown (Lies.drew (LK8.out.alloc (.cells #[.int .u32 (O : Int), .int .i64 S, .bool true, .slice fA ld fd, .int .i64 2, .slice fB 1 fe] 34))) hg9 (fun q => by have := HKo.out _ q.symm; omega))
                have LN9 := Lib.hid (Lies.grown (Lies.drew (LN8.out.alloc (.cells #[.int .u32 (O : Int), .int .i64 S, .bool true, .slice fA ld fd, .int .i64 2, .slice fB 1 fe] 34))) hg9 (SM8.out.o.row.ne LN8.out (by decide)))
                have SMn := Lib.hid (SM.over (y := ⟨⟨O, S, true, l, 2, [nt]⟩, .slice fA ld fd, .slice fB 1 fe⟩) (SM.drew (SM8.out.alloc (.cells #[.int .u32 (O : Int), .int .i64 S, .bool true, .slice fA ld fd, .int .i64 2, .slice fB 1 fe] 34))) (Own.drew (OAt.out.alloc _)) (Own.drew (OBt.out.alloc _)) ⟨HON.out, H64.out, (show in64 2 by unfold in64; decide)⟩ ho9 hg9 hb9)
                have LS9 := Lib.hid (Lies.grown (Lies.drew (LSx.out.alloc (.cells #[.int .u32 (O : Int), .int .i64 S, .bool true, .slice fA ld fd, .int .i64 2, .slice fB 1 fe] 34))) hg9 (fun q => by have := (SM8.out.o.row).block _ q.symm; omega))
                clear ho9 hg9 hb9
                obtain ⟨t0, t1, t2, t3, t4, t5⟩ := LS9.out.cells6
                obtain ⟨r0, r1, r2, r3, r4, r5⟩ := LS9.out.free6
                refine hK.out _ _ (LK9.out.cells6) (fun hH3 => ?_)
                clear hK K hH2
                try simp only [Act.put, List.setIfInBounds_toArray, List.set_cons_zero, List.set_cons_succ]
                refine any_take 8 250 ?vc46x8 rfl rfl (by kernel_rfl) (by kernel_rfl) (by kernel_rfl) (fun _ _ _ h => h) (by rfl) ?hyc46x8 hH3 ?restc46x8
                case hyc46x8 => ((intro W hSw); obtain ⟨s0, s1, s2, s3, s4, s5⟩ := hSw; go_simp; (try with_reducible rfl))
                try simp only [Act.put, List.setIfInBounds_toArray, List.set_cons_zero, List.set_cons_succ]
                refine any_take 9 251 ?vc46x9 rfl rfl (by kernel_rfl) (by kernel_rfl) (by kernel_rfl) (fun _ _ _ h => h) (by rfl) ?hyc46x9 hH3 ?restc46x9
                case hyc46x9 => ((intro W hSw); obtain ⟨s0, s1, s2, s3, s4, s5⟩ := hSw; go_simp; (try with_reducible rfl))
                try simp only [Act.put, List.setIfInBounds_toArray, List.set_cons_zero, List.set_cons_succ]
                refine wpAnyH_ready (rs := [10]) (by kernel_rfl) (by simp) ?_
                refine AllReadyH.cons rfl (fun K hK => ?_) AllReadyH.nil
                go_simp
                have LKn := Lib.hid (LK9.out.other (a := ⟨gs, 4, none⟩) (show gF ≠ gs by have := HKg.out; omega) (.slice (some ⟨gg, 0, none⟩) (no + 1) cap))
                have LNn := Lib.hid (LN9.out.other (a := ⟨gs, 4, none⟩) (show gC + 1 ≠ gs by have := HGN.out; omega) (.slice (some ⟨gg, 0, none⟩) (no + 1) cap))
                refine hK.out _ _ (LKn.out.cells6) (fun hH4 => ?_)
                clear hK K hH3 hH4
                try simp only [Act.put, List.setIfInBounds_toArray, List.set_cons_zero, List.set_cons_succ]
                refine wpAnyH_done (by kernel_rfl) ?_ _
                refine NoPanic.normal ?_
                clear t0 t1 t2 t3 t4 t5 r0 r1 r2 r3 r4 r5 gl0 gl1 gl2 gl3 gl4 gl5 gf0 gf1 gf2 gf3 gf4 gf5 GA LS9
                go_wp2
                go_end0
                exact ⟨rfl, _, SMn.out, HIK.out.congr (fun i hi => (HY5.out i hi).symm) (fun i hi => rfl) (fun i hi => (snoc_congr (m := nt) (X := U) (x := ⟨⟨O, S, true, l, 2, [nt]⟩, .slice fA ld fd, .slice fB 1 fe⟩)).symm) (fun i hi => (snoc_congr (m := no) (X := Ov) (x := ⟨⟨O, S, true, l, 2, [nt]⟩, .slice fA ld fd, .slice fB 1 fe⟩)).symm), by simp, by simp, by simp, by simp⟩

end Go.Proofs.Ytfcfejmammohpaa
