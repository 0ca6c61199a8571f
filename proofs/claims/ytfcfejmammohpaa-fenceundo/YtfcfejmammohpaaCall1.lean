/-
  A call that is stale, or clashes.
-/
import Derived.Test.YtfcfejmammohpaaCallC
import Derived.Test.YtfcfejmammohpaaSee
import Derived.Test.YtfcfejmammohpaaRegLaw
import Derived.Deep.RegionHeld3
import Derived.Deep.DeepCutAuto
namespace Go.Proofs.Ytfcfejmammohpaa
open Go.RowKit
set_option maxRecDepth 100000
set_option linter.unusedVariables false
set_option linter.unusedSimpArgs false

/-- What a call comes to. -/
def CallPost (w0 : World) (gs : Nat) (s : St) (x : Ending) (w' : World) : Prop := x = .returned (.tuple #[]) ∧ ∃ s', SM w0 gs s' w' ∧ s'.inv ∧ s'.n ≤ s.n + 1 ∧ s'.nt ≤ s.nt + 1 ∧ s'.nd ≤ s.nd + 1 ∧ s'.no ≤ s.no + 1
set_option maxHeartbeats 16000000 in
theorem calls_stale (w0 : World) (gs : Nat) (s : St) (e od : Nat) (st : Int) (un : Bool) (Ad : Option Addr) (cd : Nat) (gd : Bool) (l : List Nat) (w : World) (E O : Nat) (S : Int) (hM : SM w0 gs s w) (hI : s.inv) (he : e < 4294967296) (ho : od < 4294967296) (hB : Bys w0 Ad l.length l) (hc : l.length ≤ cd) (hcm : cd ≤ maxLen) (hA : Ad = none → cd = 0) (hn : s.n < 200) (hb1 : s.nt < 200 ∧ s.nd < 200 ∧ s.no < 200) (hE : (1 + (e : Int) % 6) = (E : Int)) (hO : (1 + (od : Int) % 4) = (O : Int)) (hS : wrap64 ((IntKind.u64.wrap st).tmod 3) = S) (hq : Rq E O S l) (hs : E < s.ep) :
    Calls Try.prog 51 #[.pointer (some ⟨gs, 0, none⟩), .agg #[.int .u32 (e : Int), .int .u32 (od : Int), .int .i64 st, .bool un, .slice Ad l.length cd, .bool gd]] w (CallPost w0 gs s) := by
  obtain ⟨ep, A, n, c, Y, Da, nd, dc, D, Ta, nt, tc, U, Oa, no, oc, Ov⟩ := s
  have hI2 : Inv ep n (fun i => (Y i).k) nd (fun i => (D i).k) nt (fun i => (U i).k) no (fun i => (Ov i).k) := hI
  dsimp only at hn hb1 hs
  obtain ⟨kp, hask⟩ : ∃ kp, askS ep n (fun i => (Y i).k) (stN E O S un l) = ⟨0, kp, 72⟩ := ⟨kz, ask_stale (un := un) hI2 hq hs⟩
  have hep : ep < 4294967296 := by have := hI2.ep; omega
  have hEb : E < 4294967296 := by have := hq.e2; omega
  have hOb : O < 4294967296 := by have := hq.o2; omega
  have SM1 : Hid (SM w0 gs (⟨ep, A, n, c, Y, Da, nd, dc, D, Ta, nt, tc, U, Oa, no, oc, Ov⟩ : St) ((w.alloc (.cells #[.int .u32 (e : Int), .int .u32 (od : Int), .int .i64 st, .bool un, .slice Ad l.length cd, .bool gd] 77)).alloc (.cells #[.int .i64 7, .int .u32 (1 + (e : Int) % 6), .int .u32 0, .int .u64 0, .int .u64 0, .int .u32 (1 + (od : Int) % 4), .int .i64 (wrap64 ((IntKind.u64.wrap st).tmod 3)), .bool un, .int .i64 0, .slice none 0 0, .slice Ad l.length cd] 29))) := Lib.hid ((hM.alloc _).alloc _)
  have LS1 : Hid (Lies ((w.alloc (.cells #[.int .u32 (e : Int), .int .u32 (od : Int), .int .i64 st, .bool un, .slice Ad l.length cd, .bool gd] 77)).alloc (.cells #[.int .i64 7, .int .u32 (1 + (e : Int) % 6), .int .u32 0, .int .u64 0, .int .u64 0, .int .u32 (1 + (od : Int) % 4), .int .i64 (wrap64 ((IntKind.u64.wrap st).tmod 3)), .bool un, .int .i64 0, .slice none 0 0, .slice Ad l.length cd] 29)) gs 62 #[.int .u32 (ep : Int), .slice A n c, .slice Da nd dc, .slice Ta nt tc, .slice Oa no oc, .bool false]) := Lib.hid SM1.out.box
  have LC1 : Hid (Lies ((w.alloc (.cells #[.int .u32 (e : Int), .int .u32 (od : Int), .int .i64 st, .bool un, .slice Ad l.length cd, .bool gd] 77)).alloc (.cells #[.int .i64 7, .int .u32 (1 + (e : Int) % 6), .int .u32 0, .int .u64 0, .int .u64 0, .int .u32 (1 + (od : Int) % 4), .int .i64 (wrap64 ((IntKind.u64.wrap st).tmod 3)), .bool un, .int .i64 0, .slice none 0 0, .slice Ad l.length cd] 29)) w.heap.size 77 #[.int .u32 (e : Int), .int .u32 (od : Int), .int .i64 st, .bool un, .slice Ad l.length cd, .bool gd]) := Lib.hid ((Lies.made w 77 #[.int .u32 (e : Int), .int .u32 (od : Int), .int .i64 st, .bool un, .slice Ad l.length cd, .bool gd]).alloc _)
  have LN1 : Hid (Lies ((w.alloc (.cells #[.int .u32 (e : Int), .int .u32 (od : Int), .int .i64 st, .bool un, .slice Ad l.length cd, .bool gd] 77)).alloc (.cells #[.int .i64 7, .int .u32 (1 + (e : Int) % 6), .int .u32 0, .int .u64 0, .int .u64 0, .int .u32 (1 + (od : Int) % 4), .int .i64 (wrap64 ((IntKind.u64.wrap st).tmod 3)), .bool un, .int .i64 0, .slice none 0 0, .slice Ad l.length cd] 29)) (w.heap.size + 1) 29 #[.int .i64 7, .int .u32 (1 + (e : Int) % 6), .int .u32 0, .int .u64 0, .int .u64 0, .int .u32 (1 + (od : Int) % 4), .int .i64 (wrap64 ((IntKind.u64.wrap st).tmod 3)), .bool un, .int .i64 0, .slice none 0 0, .slice Ad l.length cd]) := Lib.hid (Lies.made2 w (.cells #[.int .u32 (e : Int), .int .u32 (od : Int), .int .i64 st, .bool un, .slice Ad l.length cd, .bool gd] 77) 29 #[.int .i64 7, .int .u32 (1 + (e : Int) % 6), .int .u32 0, .int .u64 0, .int .u64 0, .int .u32 (1 + (od : Int) % 4), .int .i64 (wrap64 ((IntKind.u64.wrap st).tmod 3)), .bool un, .int .i64 0, .slice none 0 0, .slice Ad l.length cd])
  have HF1 : Hid (FV ((w.alloc (.cells #[.int .u32 (e : Int), .int .u32 (od : Int), .int .i64 st, .bool un, .slice Ad l.length cd, .bool gd] 77)).alloc (.cells #[.int .i64 7, .int .u32 (1 + (e : Int) % 6), .int .u32 0, .int .u64 0, .int .u64 0, .int .u32 (1 + (od : Int) % 4), .int .i64 (wrap64 ((IntKind.u64.wrap st).tmod 3)), .bool un, .int .i64 0, .slice none 0 0, .slice Ad l.length cd] 29)) A n c (fun i => (Y i).k)) := Lib.hid SM1.out.fv
  have HN1 : Hid (EntV ((w.alloc (.cells #[.int .u32 (e : Int), .int .u32 (od : Int), .int .i64 st, .bool un, .slice Ad l.length cd, .bool gd] 77)).alloc (.cells #[.int .i64 7, .int .u32 (1 + (e : Int) % 6), .int .u32 0, .int .u64 0, .int .u64 0, .int .u32 (1 + (od : Int) % 4), .int .i64 (wrap64 ((IntKind.u64.wrap st).tmod 3)), .bool un, .int .i64 0, .slice none 0 0, .slice Ad l.length cd] 29)) (stN E O S un l) none Ad 0 cd) := Lib.hid (entV_st (hB.below (by rw [hM.hg]; exact SM1.out.bel)) hc hcm hA hEb hOb hq.s64)
  have HGN := Lib.hid (show gs < w.heap.size from hM.lt)
  obtain ⟨m0, m1, m2, m3, m4, m5⟩ := LS1.out.cells6
  obtain ⟨o0, o1, o2, o3, o4, o5⟩ := LC1.out.cells6
  have HE := Lib.hid hE
  have HO := Lib.hid hO
  have HS := Lib.hid hS
  have HQ := Lib.hid hq
  have HI := Lib.hid hI2
  have HASK := Lib.hid hask
  have HNN := Lib.hid (And.intro hn hb1)
  have H64 := Lib.hid hq.s64
  have HEP := Lib.hid hep
  clear hE hO hS hq hI hI2 hM hB hc hcm hA hask hep hEb hOb hn hb1
  go_enter Try.func51, Try.ntmps51
  go_wp2_with fail
  clear m0 m1 m2 m3 m4 m5 o0 o1 o2 o3 o4 o5
  obtain ⟨x1, hx1⟩ : ∃ z, z = ((w.alloc (.cells #[.int .u32 (e : Int), .int .u32 (od : Int), .int .i64 st, .bool un, .slice Ad l.length cd, .bool gd] 77)).alloc (.cells #[.int .i64 7, .int .u32 (1 + (e : Int) % 6), .int .u32 0, .int .u64 0, .int .u64 0, .int .u32 (1 + (od : Int) % 4), .int .i64 (wrap64 ((IntKind.u64.wrap st).tmod 3)), .bool un, .int .i64 0, .slice none 0 0, .slice Ad l.length cd] 29)) := ⟨_, rfl⟩
  rw [← hx1]
  rw [← hx1] at SM1 LS1 LC1 LN1 HF1 HN1
  rw [HE.out, HO.out, HS.out]
  rw [HE.out, HO.out, HS.out] at LN1
  clear hx1
  obtain ⟨gC, hgC⟩ : ∃ g, g = w.heap.size := ⟨_, rfl⟩
  rw [← hgC]
  rw [← hgC] at LC1 LN1 HGN
  clear hgC HE HO HS he ho
  obtain ⟨ld, hld⟩ : ∃ k, l.length = k := ⟨_, rfl⟩
  rw [hld]
  rw [hld] at LC1 LN1
  have HLD := Lib.hid hld
  clear hld
  skip
  have D3 := Lib.hid (fun W (hb : Below x1.heap.size x1 W) => ask_st ep A n c (fun i => (Y i).k) E O S un Ad ld cd l W (HF1.out.below hb) (HN1.out.below hb) HLD.out H64.out HEP.out 0 72 kp (by rw [HASK.out]; rfl) (by rw [HASK.out]) (by rw [HASK.out]; rfl))
  have Z := Lib.hid (Below.refl x1.heap.size x1)
  obtain ⟨u0, u1, -, -, -, -⟩ := LS1.out.cells6
  obtain ⟨v0, v1, v2, v3, v4, v5, v6, v7, v8, v9, v10⟩ := LN1.out.cells11
  have hz1 : x1.heap.size ≠ gs := Nat.ne_of_gt LS1.out.lt
  have hz2 : x1.heap.size ≠ gC + 1 := Nat.ne_of_gt LN1.out.lt
  have GB := Lib.hid (show gs + 1 ≤ x1.heap.size from LS1.out.lt)
  have GB2 : Hid (gs + 1 ≤ (x1.alloc (.cells #[.int .u32 0, .int .i64 0, .bool false, .slice none 0 0, .int .i64 0, .slice none 0 0] 34)).heap.size) := Lib.hid (Nat.le_trans GB.out (by simp))
  go_cut [6, 7, 8] (fun s6 s7 s8 W => s6 = .int .i64 0 ∧ s8 = .int .i64 72 ∧ ∃ g bA bd bB be, s7 = .pointer (some ⟨g, 0, none⟩) ∧ Lies W g 34 #[.int .u32 (kp.o : Int), .int .i64 kp.s, .bool kp.u, .slice bA kp.a.length bd, .int .i64 kp.c, .slice bB kp.r.length be] ∧ Own W (gs + 1) (.slice bA kp.a.length bd) kp.a ∧ Own W (gs + 1) (.slice bB kp.r.length be) kp.r ∧ x1.heap.size ≤ g ∧ Below x1.heap.size x1 W)
  case first =>
    as_aux_lemma =>
      go_region_held3 (fun W => W.cell? ⟨gs, 0, none⟩ = some (.int .u32 (ep : Int)) ∧ W.cell? ⟨gs, 1, none⟩ = some (.slice A n c) ∧ W.cell? ⟨gC + 1, 0, none⟩ = some (.int .i64 7) ∧ W.cell? ⟨gC + 1, 1, none⟩ = some (.int .u32 (E : Int)) ∧ W.cell? ⟨gC + 1, 2, none⟩ = some (.int .u32 0) ∧ W.cell? ⟨gC + 1, 3, none⟩ = some (.int .u64 0) ∧ W.cell? ⟨gC + 1, 4, none⟩ = some (.int .u64 0) ∧ W.cell? ⟨gC + 1, 5, none⟩ = some (.int .u32 (O : Int)) ∧ W.cell? ⟨gC + 1, 6, none⟩ = some (.int .i64 S) ∧ W.cell? ⟨gC + 1, 7, none⟩ = some (.bool un) ∧ W.cell? ⟨gC + 1, 8, none⟩ = some (.int .i64 0) ∧ W.cell? ⟨gC + 1, 9, none⟩ = some (.slice none 0 0) ∧ W.cell? ⟨gC + 1, 10, none⟩ = some (.slice Ad ld cd)) (first | (with_reducible exact ⟨u0, u1, v0, v1, v2, v3, v4, v5, v6, v7, v8, v9, v10⟩) | go_keep)
        (first
        | (go_at_call 14; (with_reducible refine (D3.out x1.drew Z.out.drew).mono ?_); (rintro x wb ⟨bA, bd, bB, be, rfl, oa, ob, hb⟩); (have O1 := Lib.hid (oa.mono GB.out)); (have O2 := Lib.hid (ob.mono GB.out)); (have Z := Lib.hid (Z.out.drew.trans (hb.mono Z.out.size))); (clear u0 u1 v0 v1 v2 v3 v4 v5 v6 v7 v8 v9 v10); (obtain ⟨u0, u1, -, -, -, -⟩ := (Lies.below LS1.out Z.out (Lies.lt LS1.out)).cells6); (obtain ⟨v0, v1, v2, v3, v4, v5, v6, v7, v8, v9, v10⟩ := (Lies.below LN1.out Z.out (Lies.lt LN1.out)).cells11); (have hy1 : wb.heap.size ≠ gs := Nat.ne_of_gt (Nat.lt_of_lt_of_le LS1.out.lt Z.out.size)); (have hy2 : wb.heap.size ≠ gC + 1 := Nat.ne_of_gt (Nat.lt_of_lt_of_le LN1.out.lt Z.out.size)); (clear oa ob hb))
        | (go_at_call 14; (with_reducible refine (D3.out (x1.alloc (.cells #[.int .u32 0, .int .i64 0, .bool false, .slice none 0 0, .int .i64 0, .slice none 0 0] 34)).drew (Z.out.alloc Z.out.size (.cells #[.int .u32 0, .int .i64 0, .bool false, .slice none 0 0, .int .i64 0, .slice none 0 0] 34)).drew).mono ?_); (rintro x wb ⟨bA, bd, bB, be, rfl, oa, ob, hb⟩); (have O1 := Lib.hid (oa.mono GB2.out)); (have O2 := Lib.hid (ob.mono GB2.out)); (have LZ2 := Lib.hid (Lies.below (Lies.drew (Lies.made x1 34 #[.int .u32 0, .int .i64 0, .bool false, .slice none 0 0, .int .i64 0, .slice none 0 0])) hb (Lies.lt (Lies.made x1 34 #[.int .u32 0, .int .i64 0, .bool false, .slice none 0 0, .int .i64 0, .slice none 0 0])))); (have GZ := Lib.hid (Nat.le_refl x1.heap.size)); (obtain ⟨zc0, zc1, zc2, zc3, zc4, zc5⟩ := LZ2.out.cells6); (obtain ⟨zf0, zf1, zf2, zf3, zf4, zf5⟩ := LZ2.out.free6); (have Z := Lib.hid ((Z.out.alloc Z.out.size (.cells #[.int .u32 0, .int .i64 0, .bool false, .slice none 0 0, .int .i64 0, .slice none 0 0] 34)).drew.trans (hb.mono (Z.out.alloc Z.out.size (.cells #[.int .u32 0, .int .i64 0, .bool false, .slice none 0 0, .int .i64 0, .slice none 0 0] 34)).size))); (clear u0 u1 v0 v1 v2 v3 v4 v5 v6 v7 v8 v9 v10); (obtain ⟨u0, u1, -, -, -, -⟩ := (Lies.below LS1.out Z.out (Lies.lt LS1.out)).cells6); (obtain ⟨v0, v1, v2, v3, v4, v5, v6, v7, v8, v9, v10⟩ := (Lies.below LN1.out Z.out (Lies.lt LN1.out)).cells11); (have hy1 : wb.heap.size ≠ gs := Nat.ne_of_gt (Nat.lt_of_lt_of_le LS1.out.lt Z.out.size)); (have hy2 : wb.heap.size ≠ gC + 1 := Nat.ne_of_gt (Nat.lt_of_lt_of_le LN1.out.lt Z.out.size)); (clear oa ob hb)))
      all_goals
        go_wp2_with fail
        go_meet
        first
        | (with_reducible exact ⟨rfl, rfl, _, _, _, _, _, rfl, (Lies.put6 LZ2.out _ _ _ _ _ _), (Own.put6 O1.out LZ2.out (by decide) _ _ _ _ _ _), (Own.put6 O2.out LZ2.out (by decide) _ _ _ _ _ _), GZ.out, (below_put6 Z.out GZ.out _ _ _ _ _ _)⟩)
        | (with_reducible exact ⟨rfl, rfl, _, _, _, _, _, rfl, (Lies.made wb 34 #[.int .u32 (kp.o : Int), .int .i64 kp.s, .bool kp.u, .slice bA kp.a.length bd, .int .i64 kp.c, .slice bB kp.r.length be]), (Own.alloc O1.out _), (Own.alloc O2.out _), Z.out.size, (Z.out.alloc Z.out.size (.cells #[.int .u32 (kp.o : Int), .int .i64 kp.s, .bool kp.u, .slice bA kp.a.length bd, .int .i64 kp.c, .slice bB kp.r.length be] 34))⟩)
  case rest =>
    obtain ⟨rfl, rfl, gK, bA, bd, bB, be, rfl, hLK, hO1, hO2, hgK, hBy⟩ := hcut
    generalize wc = x2 at *
    have SM2 := Lib.hid (SM1.out.below hBy)
    have LS2 : Hid (Lies x2 gs 62 #[.int .u32 (ep : Int), .slice A n c, .slice Da nd dc, .slice Ta nt tc, .slice Oa no oc, .bool false]) := Lib.hid SM2.out.box
    have LC2 := Lib.hid (LC1.out.below hBy LC1.out.lt)
    have LN2 := Lib.hid (LN1.out.below hBy LN1.out.lt)
    have HF2 : Hid (FV x2 A n c (fun i => (Y i).k)) := Lib.hid (HF1.out.below hBy)
    have HN2 := Lib.hid (HN1.out.below hBy)
    have LK := Lib.hid hLK
    have OK1 := Lib.hid hO1
    have OK2 := Lib.hid hO2
    have HGK := Lib.hid hgK
    have B12 := Lib.hid hBy
    clear hLK hO1 hO2 hgK hBy D3 u0 u1 v0 v1 v2 v3 v4 v5 v6 v7 v8 v9 v10 hz1 hz2 GB GB2 Z LS1 LC1 LN1 HF1 HN1
    obtain ⟨m0, m1, m2, m3, m4, m5⟩ := LS2.out.cells6
    obtain ⟨f0, f1, f2, f3, f4, f5⟩ := LS2.out.free6
    obtain ⟨v0, v1, v2, v3, v4, v5, v6, v7, v8, v9, v10⟩ := LN2.out.cells11
    obtain ⟨o0, o1, o2, o3, o4, o5⟩ := LC2.out.cells6
    have d1 : decide ((ep : Int) ≤ (E : Int)) = false := by rw [decide_eq_false_iff_not]; omega
    have d2 : decide (ep ≤ E) = false := by rw [decide_eq_false_iff_not]; omega
    go_wp2
    go_end0
    refine ⟨rfl, (⟨ep, A, n, c, Y, Da, nd, dc, D, Ta, nt, tc, U, Oa, no, oc, Ov⟩ : St), ?_, HI.out, by simp, by simp, by simp, by simp⟩
    rw [setCell_same LS2.out rfl]
    exact SM2.out
set_option maxHeartbeats 16000000 in
theorem calls_clash (w0 : World) (gs : Nat) (s : St) (e od : Nat) (st : Int) (un : Bool) (Ad : Option Addr) (cd : Nat) (gd : Bool) (l : List Nat) (w : World) (E O : Nat) (S : Int) (hM : SM w0 gs s w) (hI : s.inv) (he : e < 4294967296) (ho : od < 4294967296) (hB : Bys w0 Ad l.length l) (hc : l.length ≤ cd) (hcm : cd ≤ maxLen) (hA : Ad = none → cd = 0) (hn : s.n < 200) (hb1 : s.nt < 200 ∧ s.nd < 200 ∧ s.no < 200) (hE : (1 + (e : Int) % 6) = (E : Int)) (hO : (1 + (od : Int) % 4) = (O : Int)) (hS : wrap64 ((IntKind.u64.wrap st).tmod 3) = S) (hq : Rq E O S l) (hs : ¬ E < s.ep) (hh : has s.n (fun i => (s.Y i).k) (kn O S un) = true) (ha : ¬ (s.Y (pos (fun i => (s.Y i).k) (kn O S un) s.n)).k.a = l) :
    Calls Try.prog 51 #[.pointer (some ⟨gs, 0, none⟩), .agg #[.int .u32 (e : Int), .int .u32 (od : Int), .int .i64 st, .bool un, .slice Ad l.length cd, .bool gd]] w (CallPost w0 gs s) := by
  obtain ⟨ep, A, n, c, Y, Da, nd, dc, D, Ta, nt, tc, U, Oa, no, oc, Ov⟩ := s
  have hI2 : Inv ep n (fun i => (Y i).k) nd (fun i => (D i).k) nt (fun i => (U i).k) no (fun i => (Ov i).k) := hI
  dsimp only at hn hb1 hs hh ha
  obtain ⟨kp, hask⟩ : ∃ kp, askS ep n (fun i => (Y i).k) (stN E O S un l) = ⟨0, kp, 80⟩ := ⟨kz, (ask_has (un := un) hI2 hq hs hh).trans (if_neg ha)⟩
  have hep : ep < 4294967296 := by have := hI2.ep; omega
  have hEb : E < 4294967296 := by have := hq.e2; omega
  have hOb : O < 4294967296 := by have := hq.o2; omega
  have SM1 : Hid (SM w0 gs (⟨ep, A, n, c, Y, Da, nd, dc, D, Ta, nt, tc, U, Oa, no, oc, Ov⟩ : St) ((w.alloc (.cells #[.int .u32 (e : Int), .int .u32 (od : Int), .int .i64 st, .bool un, .slice Ad l.length cd, .bool gd] 77)).alloc (.cells #[.int .i64 7, .int .u32 (1 + (e : Int) % 6), .int .u32 0, .int .u64 0, .int .u64 0, .int .u32 (1 + (od : Int) % 4), .int .i64 (wrap64 ((IntKind.u64.wrap st).tmod 3)), .bool un, .int .i64 0, .slice none 0 0, .slice Ad l.length cd] 29))) := Lib.hid ((hM.alloc _).alloc _)
  have LS1 : Hid (Lies ((w.alloc (.cells #[.int .u32 (e : Int), .int .u32 (od : Int), .int .i64 st, .bool un, .slice Ad l.length cd, .bool gd] 77)).alloc (.cells #[.int .i64 7, .int .u32 (1 + (e : Int) % 6), .int .u32 0, .int .u64 0, .int .u64 0, .int .u32 (1 + (od : Int) % 4), .int .i64 (wrap64 ((IntKind.u64.wrap st).tmod 3)), .bool un, .int .i64 0, .slice none 0 0, .slice Ad l.length cd] 29)) gs 62 #[.int .u32 (ep : Int), .slice A n c, .slice Da nd dc, .slice Ta nt tc, .slice Oa no oc, .bool false]) := Lib.hid SM1.out.box
  have LC1 : Hid (Lies ((w.alloc (.cells #[.int .u32 (e : Int), .int .u32 (od : Int), .int .i64 st, .bool un, .slice Ad l.length cd, .bool gd] 77)).alloc (.cells #[.int .i64 7, .int .u32 (1 + (e : Int) % 6), .int .u32 0, .int .u64 0, .int .u64 0, .int .u32 (1 + (od : Int) % 4), .int .i64 (wrap64 ((IntKind.u64.wrap st).tmod 3)), .bool un, .int .i64 0, .slice none 0 0, .slice Ad l.length cd] 29)) w.heap.size 77 #[.int .u32 (e : Int), .int .u32 (od : Int), .int .i64 st, .bool un, .slice Ad l.length cd, .bool gd]) := Lib.hid ((Lies.made w 77 #[.int .u32 (e : Int), .int .u32 (od : Int), .int .i64 st, .bool un, .slice Ad l.length cd, .bool gd]).alloc _)
  have LN1 : Hid (Lies ((w.alloc (.cells #[.int .u32 (e : Int), .int .u32 (od : Int), .int .i64 st, .bool un, .slice Ad l.length cd, .bool gd] 77)).alloc (.cells #[.int .i64 7, .int .u32 (1 + (e : Int) % 6), .int .u32 0, .int .u64 0, .int .u64 0, .int .u32 (1 + (od : Int) % 4), .int .i64 (wrap64 ((IntKind.u64.wrap st).tmod 3)), .bool un, .int .i64 0, .slice none 0 0, .slice Ad l.length cd] 29)) (w.heap.size + 1) 29 #[.int .i64 7, .int .u32 (1 + (e : Int) % 6), .int .u32 0, .int .u64 0, .int .u64 0, .int .u32 (1 + (od : Int) % 4), .int .i64 (wrap64 ((IntKind.u64.wrap st).tmod 3)), .bool un, .int .i64 0, .slice none 0 0, .slice Ad l.length cd]) := Lib.hid (Lies.made2 w (.cells #[.int .u32 (e : Int), .int .u32 (od : Int), .int .i64 st, .bool un, .slice Ad l.length cd, .bool gd] 77) 29 #[.int .i64 7, .int .u32 (1 + (e : Int) % 6), .int .u32 0, .int .u64 0, .int .u64 0, .int .u32 (1 + (od : Int) % 4), .int .i64 (wrap64 ((IntKind.u64.wrap st).tmod 3)), .bool un, .int .i64 0, .slice none 0 0, .slice Ad l.length cd])
  have HF1 : Hid (FV ((w.alloc (.cells #[.int .u32 (e : Int), .int .u32 (od : Int), .int .i64 st, .bool un, .slice Ad l.length cd, .bool gd] 77)).alloc (.cells #[.int .i64 7, .int .u32 (1 + (e : Int) % 6), .int .u32 0, .int .u64 0, .int .u64 0, .int .u32 (1 + (od : Int) % 4), .int .i64 (wrap64 ((IntKind.u64.wrap st).tmod 3)), .bool un, .int .i64 0, .slice none 0 0, .slice Ad l.length cd] 29)) A n c (fun i => (Y i).k)) := Lib.hid SM1.out.fv
  have HN1 : Hid (EntV ((w.alloc (.cells #[.int .u32 (e : Int), .int .u32 (od : Int), .int .i64 st, .bool un, .slice Ad l.length cd, .bool gd] 77)).alloc (.cells #[.int .i64 7, .int .u32 (1 + (e : Int) % 6), .int .u32 0, .int .u64 0, .int .u64 0, .int .u32 (1 + (od : Int) % 4), .int .i64 (wrap64 ((IntKind.u64.wrap st).tmod 3)), .bool un, .int .i64 0, .slice none 0 0, .slice Ad l.length cd] 29)) (stN E O S un l) none Ad 0 cd) := Lib.hid (entV_st (hB.below (by rw [hM.hg]; exact SM1.out.bel)) hc hcm hA hEb hOb hq.s64)
  have HGN := Lib.hid (show gs < w.heap.size from hM.lt)
  obtain ⟨m0, m1, m2, m3, m4, m5⟩ := LS1.out.cells6
  obtain ⟨o0, o1, o2, o3, o4, o5⟩ := LC1.out.cells6
  have HE := Lib.hid hE
  have HO := Lib.hid hO
  have HS := Lib.hid hS
  have HQ := Lib.hid hq
  have HI := Lib.hid hI2
  have HASK := Lib.hid hask
  have HNN := Lib.hid (And.intro hn hb1)
  have H64 := Lib.hid hq.s64
  have HEP := Lib.hid hep
  clear hE hO hS hq hI hI2 hM hB hc hcm hA hask hep hEb hOb hn hb1
  go_enter Try.func51, Try.ntmps51
  go_wp2_with fail
  clear m0 m1 m2 m3 m4 m5 o0 o1 o2 o3 o4 o5
  obtain ⟨x1, hx1⟩ : ∃ z, z = ((w.alloc (.cells #[.int .u32 (e : Int), .int .u32 (od : Int), .int .i64 st, .bool un, .slice Ad l.length cd, .bool gd] 77)).alloc (.cells #[.int .i64 7, .int .u32 (1 + (e : Int) % 6), .int .u32 0, .int .u64 0, .int .u64 0, .int .u32 (1 + (od : Int) % 4), .int .i64 (wrap64 ((IntKind.u64.wrap st).tmod 3)), .bool un, .int .i64 0, .slice none 0 0, .slice Ad l.length cd] 29)) := ⟨_, rfl⟩
  rw [← hx1]
  rw [← hx1] at SM1 LS1 LC1 LN1 HF1 HN1
  rw [HE.out, HO.out, HS.out]
  rw [HE.out, HO.out, HS.out] at LN1
  clear hx1
  obtain ⟨gC, hgC⟩ : ∃ g, g = w.heap.size := ⟨_, rfl⟩
  rw [← hgC]
  rw [← hgC] at LC1 LN1 HGN
  clear hgC HE HO HS he ho
  obtain ⟨ld, hld⟩ : ∃ k, l.length = k := ⟨_, rfl⟩
  rw [hld]
  rw [hld] at LC1 LN1
  have HLD := Lib.hid hld
  clear hld
  skip
  have D3 := Lib.hid (fun W (hb : Below x1.heap.size x1 W) => ask_st ep A n c (fun i => (Y i).k) E O S un Ad ld cd l W (HF1.out.below hb) (HN1.out.below hb) HLD.out H64.out HEP.out 0 80 kp (by rw [HASK.out]; rfl) (by rw [HASK.out]) (by rw [HASK.out]; rfl))
  have Z := Lib.hid (Below.refl x1.heap.size x1)
  obtain ⟨u0, u1, -, -, -, -⟩ := LS1.out.cells6
  obtain ⟨v0, v1, v2, v3, v4, v5, v6, v7, v8, v9, v10⟩ := LN1.out.cells11
  have hz1 : x1.heap.size ≠ gs := Nat.ne_of_gt LS1.out.lt
  have hz2 : x1.heap.size ≠ gC + 1 := Nat.ne_of_gt LN1.out.lt
  have GB := Lib.hid (show gs + 1 ≤ x1.heap.size from LS1.out.lt)
  have GB2 : Hid (gs + 1 ≤ (x1.alloc (.cells #[.int .u32 0, .int .i64 0, .bool false, .slice none 0 0, .int .i64 0, .slice none 0 0] 34)).heap.size) := Lib.hid (Nat.le_trans GB.out (by simp))
  go_cut [6, 7, 8] (fun s6 s7 s8 W => s6 = .int .i64 0 ∧ s8 = .int .i64 80 ∧ ∃ g bA bd bB be, s7 = .pointer (some ⟨g, 0, none⟩) ∧ Lies W g 34 #[.int .u32 (kp.o : Int), .int .i64 kp.s, .bool kp.u, .slice bA kp.a.length bd, .int .i64 kp.c, .slice bB kp.r.length be] ∧ Own W (gs + 1) (.slice bA kp.a.length bd) kp.a ∧ Own W (gs + 1) (.slice bB kp.r.length be) kp.r ∧ x1.heap.size ≤ g ∧ Below x1.heap.size x1 W)
  case first =>
    as_aux_lemma =>
      go_region_held3 (fun W => W.cell? ⟨gs, 0, none⟩ = some (.int .u32 (ep : Int)) ∧ W.cell? ⟨gs, 1, none⟩ = some (.slice A n c) ∧ W.cell? ⟨gC + 1, 0, none⟩ = some (.int .i64 7) ∧ W.cell? ⟨gC + 1, 1, none⟩ = some (.int .u32 (E : Int)) ∧ W.cell? ⟨gC + 1, 2, none⟩ = some (.int .u32 0) ∧ W.cell? ⟨gC + 1, 3, none⟩ = some (.int .u64 0) ∧ W.cell? ⟨gC + 1, 4, none⟩ = some (.int .u64 0) ∧ W.cell? ⟨gC + 1, 5, none⟩ = some (.int .u32 (O : Int)) ∧ W.cell? ⟨gC + 1, 6, none⟩ = some (.int .i64 S) ∧ W.cell? ⟨gC + 1, 7, none⟩ = some (.bool un) ∧ W.cell? ⟨gC + 1, 8, none⟩ = some (.int .i64 0) ∧ W.cell? ⟨gC + 1, 9, none⟩ = some (.slice none 0 0) ∧ W.cell? ⟨gC + 1, 10, none⟩ = some (.slice Ad ld cd)) (first | (with_reducible exact ⟨u0, u1, v0, v1, v2, v3, v4, v5, v6, v7, v8, v9, v10⟩) | go_keep)
        (first
        | (go_at_call 14; (with_reducible refine (D3.out x1.drew Z.out.drew).mono ?_); (rintro x wb ⟨bA, bd, bB, be, rfl, oa, ob, hb⟩); (have O1 := Lib.hid (oa.mono GB.out)); (have O2 := Lib.hid (ob.mono GB.out)); (have Z := Lib.hid (Z.out.drew.trans (hb.mono Z.out.size))); (clear u0 u1 v0 v1 v2 v3 v4 v5 v6 v7 v8 v9 v10); (obtain ⟨u0, u1, -, -, -, -⟩ := (Lies.below LS1.out Z.out (Lies.lt LS1.out)).cells6); (obtain ⟨v0, v1, v2, v3, v4, v5, v6, v7, v8, v9, v10⟩ := (Lies.below LN1.out Z.out (Lies.lt LN1.out)).cells11); (have hy1 : wb.heap.size ≠ gs := Nat.ne_of_gt (Nat.lt_of_lt_of_le LS1.out.lt Z.out.size)); (have hy2 : wb.heap.size ≠ gC + 1 := Nat.ne_of_gt (Nat.lt_of_lt_of_le LN1.out.lt Z.out.size)); (clear oa ob hb))
        | (go_at_call 14; (with_reducible refine (D3.out (x1.alloc (.cells #[.int .u32 0, .int .i64 0, .bool false, .slice none 0 0, .int .i64 0, .slice none 0 0] 34)).drew (Z.out.alloc Z.out.size (.cells #[.int .u32 0, .int .i64 0, .bool false, .slice none 0 0, .int .i64 0, .slice none 0 0] 34)).drew).mono ?_); (rintro x wb ⟨bA, bd, bB, be, rfl, oa, ob, hb⟩); (have O1 := Lib.hid (oa.mono GB2.out)); (have O2 := Lib.hid (ob.mono GB2.out)); (have LZ2 := Lib.hid (Lies.below (Lies.drew (Lies.made x1 34 #[.int .u32 0, .int .i64 0, .bool false, .slice none 0 0, .int .i64 0, .slice none 0 0])) hb (Lies.lt (Lies.made x1 34 #[.int .u32 0, .int .i64 0, .bool false, .slice none 0 0, .int .i64 0, .slice none 0 0])))); (have GZ := Lib.hid (Nat.le_refl x1.heap.size)); (obtain ⟨zc0, zc1, zc2, zc3, zc4, zc5⟩ := LZ2.out.cells6); (obtain ⟨zf0, zf1, zf2, zf3, zf4, zf5⟩ := LZ2.out.free6); (have Z := Lib.hid ((Z.out.alloc Z.out.size (.cells #[.int .u32 0, .int .i64 0, .bool false, .slice none 0 0, .int .i64 0, .slice none 0 0] 34)).drew.trans (hb.mono (Z.out.alloc Z.out.size (.cells #[.int .u32 0, .int .i64 0, .bool false, .slice none 0 0, .int .i64 0, .slice none 0 0] 34)).size))); (clear u0 u1 v0 v1 v2 v3 v4 v5 v6 v7 v8 v9 v10); (obtain ⟨u0, u1, -, -, -, -⟩ := (Lies.below LS1.out Z.out (Lies.lt LS1.out)).cells6); (obtain ⟨v0, v1, v2, v3, v4, v5, v6, v7, v8, v9, v10⟩ := (Lies.below LN1.out Z.out (Lies.lt LN1.out)).cells11); (have hy1 : wb.heap.size ≠ gs := Nat.ne_of_gt (Nat.lt_of_lt_of_le LS1.out.lt Z.out.size)); (have hy2 : wb.heap.size ≠ gC + 1 := Nat.ne_of_gt (Nat.lt_of_lt_of_le LN1.out.lt Z.out.size)); (clear oa ob hb)))
      all_goals
        go_wp2_with fail
        go_meet
        first
        | (with_reducible exact ⟨rfl, rfl, _, _, _, _, _, rfl, (Lies.put6 LZ2.out _ _ _ _ _ _), (Own.put6 O1.out LZ2.out (by decide) _ _ _ _ _ _), (Own.put6 O2.out LZ2.out (by decide) _ _ _ _ _ _), GZ.out, (below_put6 Z.out GZ.out _ _ _ _ _ _)⟩)
        | (with_reducible exact ⟨rfl, rfl, _, _, _, _, _, rfl, (Lies.made wb 34 #[.int .u32 (kp.o : Int), .int .i64 kp.s, .bool kp.u, .slice bA kp.a.length bd, .int .i64 kp.c, .slice bB kp.r.length be]), (Own.alloc O1.out _), (Own.alloc O2.out _), Z.out.size, (Z.out.alloc Z.out.size (.cells #[.int .u32 (kp.o : Int), .int .i64 kp.s, .bool kp.u, .slice bA kp.a.length bd, .int .i64 kp.c, .slice bB kp.r.length be] 34))⟩)
  case rest =>
    obtain ⟨rfl, rfl, gK, bA, bd, bB, be, rfl, hLK, hO1, hO2, hgK, hBy⟩ := hcut
    generalize wc = x2 at *
    have SM2 := Lib.hid (SM1.out.below hBy)
    have LS2 : Hid (Lies x2 gs 62 #[.int .u32 (ep : Int), .slice A n c, .slice Da nd dc, .slice Ta nt tc, .slice Oa no oc, .bool false]) := Lib.hid SM2.out.box
    have LC2 := Lib.hid (LC1.out.below hBy LC1.out.lt)
    have LN2 := Lib.hid (LN1.out.below hBy LN1.out.lt)
    have HF2 : Hid (FV x2 A n c (fun i => (Y i).k)) := Lib.hid (HF1.out.below hBy)
    have HN2 := Lib.hid (HN1.out.below hBy)
    have LK := Lib.hid hLK
    have OK1 := Lib.hid hO1
    have OK2 := Lib.hid hO2
    have HGK := Lib.hid hgK
    have B12 := Lib.hid hBy
    clear hLK hO1 hO2 hgK hBy D3 u0 u1 v0 v1 v2 v3 v4 v5 v6 v7 v8 v9 v10 hz1 hz2 GB GB2 Z LS1 LC1 LN1 HF1 HN1
    obtain ⟨m0, m1, m2, m3, m4, m5⟩ := LS2.out.cells6
    obtain ⟨f0, f1, f2, f3, f4, f5⟩ := LS2.out.free6
    obtain ⟨v0, v1, v2, v3, v4, v5, v6, v7, v8, v9, v10⟩ := LN2.out.cells11
    obtain ⟨o0, o1, o2, o3, o4, o5⟩ := LC2.out.cells6
    go_wp2
    go_end0
    refine ⟨rfl, (⟨ep, A, n, c, Y, Da, nd, dc, D, Ta, nt, tc, U, Oa, no, oc, Ov⟩ : St), ?_, HI.out, by simp, by simp, by simp, by simp⟩
    rw [setCell_same LS2.out rfl]
    exact SM2.out

end Go.Proofs.Ytfcfejmammohpaa
