/-
  A call that was answered before.
-/
import Derived.Test.YtfcfejmammohpaaCall1
import Derived.Deep.RegionHeld3
import Derived.Deep.DeepCutAuto
namespace Go.Proofs.Ytfcfejmammohpaa
open Go.RowKit
set_option maxRecDepth 100000
set_option linter.unusedVariables false
set_option linter.unusedSimpArgs false

set_option maxHeartbeats 16000000 in
theorem calls_again_t (w0 : World) (gs : Nat) (s : St) (e od : Nat) (st : Int) (un : Bool) (Ad : Option Addr) (cd : Nat) (gd : Bool) (l : List Nat) (w : World) (E O : Nat) (S : Int) (hM : SM w0 gs s w) (hI : s.inv) (he : e < 4294967296) (ho : od < 4294967296) (hB : Bys w0 Ad l.length l) (hc : l.length ≤ cd) (hcm : cd ≤ maxLen) (hA : Ad = none → cd = 0) (hn : s.n < 200) (hb1 : s.nt < 200 ∧ s.nd < 200 ∧ s.no < 200) (hE : (1 + (e : Int) % 6) = (E : Int)) (hO : (1 + (od : Int) % 4) = (O : Int)) (hS : wrap64 ((IntKind.u64.wrap st).tmod 3) = S) (hq : Rq E O S l) (hgd : gd = true) (hs : ¬ E < s.ep) (hh : has s.n (fun i => (s.Y i).k) (kn O S un) = true) (ha : (s.Y (pos (fun i => (s.Y i).k) (kn O S un) s.n)).k.a = l) :
    Calls Try.prog 51 #[.pointer (some ⟨gs, 0, none⟩), .agg #[.int .u32 (e : Int), .int .u32 (od : Int), .int .i64 st, .bool un, .slice Ad l.length cd, .bool gd]] w (CallPost w0 gs s) := by
  subst hgd
  obtain ⟨ep, A, n, c, Y, Da, nd, dc, D, Ta, nt, tc, U, Oa, no, oc, Ov⟩ := s
  have hI2 : Inv ep n (fun i => (Y i).k) nd (fun i => (D i).k) nt (fun i => (U i).k) no (fun i => (Ov i).k) := hI
  dsimp only at hn hb1 hs hh ha
  have hask := (ask_has (un := un) hI2 hq hs hh).trans (if_pos ha)
  have hep : ep < 4294967296 := by have := hI2.ep; omega
  have hEb : E < 4294967296 := by have := hq.e2; omega
  have hOb : O < 4294967296 := by have := hq.o2; omega
  have SM1 : Hid (SM w0 gs (⟨ep, A, n, c, Y, Da, nd, dc, D, Ta, nt, tc, U, Oa, no, oc, Ov⟩ : St) ((w.alloc (.cells #[.int .u32 (e : Int), .int .u32 (od : Int), .int .i64 st, .bool un, .slice Ad l.length cd, .bool true] 77)).alloc (.cells #[.int .i64 7, .int .u32 (1 + (e : Int) % 6), .int .u32 0, .int .u64 0, .int .u64 0, .int .u32 (1 + (od : Int) % 4), .int .i64 (wrap64 ((IntKind.u64.wrap st).tmod 3)), .bool un, .int .i64 0, .slice none 0 0, .slice Ad l.length cd] 29))) := Lib.hid ((hM.alloc _).alloc _)
  have LS1 : Hid (Lies ((w.alloc (.cells #[.int .u32 (e : Int), .int .u32 (od : Int), .int .i64 st, .bool un, .slice Ad l.length cd, .bool true] 77)).alloc (.cells #[.int .i64 7, .int .u32 (1 + (e : Int) % 6), .int .u32 0, .int .u64 0, .int .u64 0, .int .u32 (1 + (od : Int) % 4), .int .i64 (wrap64 ((IntKind.u64.wrap st).tmod 3)), .bool un, .int .i64 0, .slice none 0 0, .slice Ad l.length cd] 29)) gs 62 #[.int .u32 (ep : Int), .slice A n c, .slice Da nd dc, .slice Ta nt tc, .slice Oa no oc, .bool false]) := Lib.hid SM1.out.box
  have LC1 : Hid (Lies ((w.alloc (.cells #[.int .u32 (e : Int), .int .u32 (od : Int), .int .i64 st, .bool un, .slice Ad l.length cd, .bool true] 77)).alloc (.cells #[.int .i64 7, .int .u32 (1 + (e : Int) % 6), .int .u32 0, .int .u64 0, .int .u64 0, .int .u32 (1 + (od : Int) % 4), .int .i64 (wrap64 ((IntKind.u64.wrap st).tmod 3)), .bool un, .int .i64 0, .slice none 0 0, .slice Ad l.length cd] 29)) w.heap.size 77 #[.int .u32 (e : Int), .int .u32 (od : Int), .int .i64 st, .bool un, .slice Ad l.length cd, .bool true]) := Lib.hid ((Lies.made w 77 #[.int .u32 (e : Int), .int .u32 (od : Int), .int .i64 st, .bool un, .slice Ad l.length cd, .bool true]).alloc _)
  have LN1 : Hid (Lies ((w.alloc (.cells #[.int .u32 (e : Int), .int .u32 (od : Int), .int .i64 st, .bool un, .slice Ad l.length cd, .bool true] 77)).alloc (.cells #[.int .i64 7, .int .u32 (1 + (e : Int) % 6), .int .u32 0, .int .u64 0, .int .u64 0, .int .u32 (1 + (od : Int) % 4), .int .i64 (wrap64 ((IntKind.u64.wrap st).tmod 3)), .bool un, .int .i64 0, .slice none 0 0, .slice Ad l.length cd] 29)) (w.heap.size + 1) 29 #[.int .i64 7, .int .u32 (1 + (e : Int) % 6), .int .u32 0, .int .u64 0, .int .u64 0, .int .u32 (1 + (od : Int) % 4), .int .i64 (wrap64 ((IntKind.u64.wrap st).tmod 3)), .bool un, .int .i64 0, .slice none 0 0, .slice Ad l.length cd]) := Lib.hid (Lies.made2 w (.cells #[.int .u32 (e : Int), .int .u32 (od : Int), .int .i64 st, .bool un, .slice Ad l.length cd, .bool true] 77) 29 #[.int .i64 7, .int .u32 (1 + (e : Int) % 6), .int .u32 0, .int .u64 0, .int .u64 0, .int .u32 (1 + (od : Int) % 4), .int .i64 (wrap64 ((IntKind.u64.wrap st).tmod 3)), .bool un, .int .i64 0, .slice none 0 0, .slice Ad l.length cd])
  have HF1 : Hid (FV ((w.alloc (.cells #[.int .u32 (e : Int), .int .u32 (od : Int), .int .i64 st, .bool un, .slice Ad l.length cd, .bool true] 77)).alloc (.cells #[.int .i64 7, .int .u32 (1 + (e : Int) % 6), .int .u32 0, .int .u64 0, .int .u64 0, .int .u32 (1 + (od : Int) % 4), .int .i64 (wrap64 ((IntKind.u64.wrap st).tmod 3)), .bool un, .int .i64 0, .slice none 0 0, .slice Ad l.length cd] 29)) A n c (fun i => (Y i).k)) := Lib.hid SM1.out.fv
  have HN1 : Hid (EntV ((w.alloc (.cells #[.int .u32 (e : Int), .int .u32 (od : Int), .int .i64 st, .bool un, .slice Ad l.length cd, .bool true] 77)).alloc (.cells #[.int .i64 7, .int .u32 (1 + (e : Int) % 6), .int .u32 0, .int .u64 0, .int .u64 0, .int .u32 (1 + (od : Int) % 4), .int .i64 (wrap64 ((IntKind.u64.wrap st).tmod 3)), .bool un, .int .i64 0, .slice none 0 0, .slice Ad l.length cd] 29)) (stN E O S un l) none Ad 0 cd) := Lib.hid (entV_st (hB.below (by rw [hM.hg]; exact SM1.out.bel)) hc hcm hA hEb hOb hq.s64)
  have HGN := Lib.hid (show gs < w.heap.size from hM.lt)
  obtain ⟨m0, m1, m2, m3, m4, m5⟩ := LS1.out.cells6
  obtain ⟨o0, o1, o2, o3, o4, o5⟩ := LC1.out.cells6
  have HE := Lib.hid hE
  have HO := Lib.hid hO
  have HS := Lib.hid hS
  have HQ := Lib.hid hq
  have HI := Lib.hid hI2
  have HASK := Lib.hid hask
  have HNN := Lib.hid (And.intro hn hb1)
  have H64 := Lib.hid hq.s64
  have HEP := Lib.hid hep
  have HP := Lib.hid (has_at hh).1
  have HYB : Hid ((Y (pos (fun i => (Y i).k) (kn O S un) n)).k.o < 4294967296 ∧ in64 (Y (pos (fun i => (Y i).k) (kn O S un) n)).k.s ∧ in64 (Y (pos (fun i => (Y i).k) (kn O S un) n)).k.c) := Lib.hid (hM.f.b _ (has_at hh).1)
  clear hE hO hS hq hI hI2 hM hB hc hcm hA hask hep hEb hOb hn hb1
  go_enter Try.func51, Try.ntmps51
  go_wp2_with fail
  clear m0 m1 m2 m3 m4 m5 o0 o1 o2 o3 o4 o5
  obtain ⟨x1, hx1⟩ : ∃ z, z = ((w.alloc (.cells #[.int .u32 (e : Int), .int .u32 (od : Int), .int .i64 st, .bool un, .slice Ad l.length cd, .bool true] 77)).alloc (.cells #[.int .i64 7, .int .u32 (1 + (e : Int) % 6), .int .u32 0, .int .u64 0, .int .u64 0, .int .u32 (1 + (od : Int) % 4), .int .i64 (wrap64 ((IntKind.u64.wrap st).tmod 3)), .bool un, .int .i64 0, .slice none 0 0, .slice Ad l.length cd] 29)) := ⟨_, rfl⟩
  rw [← hx1]
  rw [← hx1] at SM1 LS1 LC1 LN1 HF1 HN1
  rw [HE.out, HO.out, HS.out]
  rw [HE.out, HO.out, HS.out] at LN1
  clear hx1
  obtain ⟨gC, hgC⟩ : ∃ g, g = w.heap.size := ⟨_, rfl⟩
  rw [← hgC]
  rw [← hgC] at LC1 LN1 HGN
  clear hgC HE HO HS he ho
  obtain ⟨ld, hld⟩ : ∃ k, l.length = k := ⟨_, rfl⟩
  rw [hld]
  rw [hld] at LC1 LN1
  have HLD := Lib.hid hld
  clear hld
  skip
  have D3 := Lib.hid (fun W (hb : Below x1.heap.size x1 W) => ask_st ep A n c (fun i => (Y i).k) E O S un Ad ld cd l W (HF1.out.below hb) (HN1.out.below hb) HLD.out H64.out HEP.out 2 0 (Y (pos (fun i => (Y i).k) (kn O S un) n)).k (by rw [HASK.out]; rfl) (by rw [HASK.out]) (by rw [HASK.out]; rfl))
  obtain ⟨kp, hkp⟩ : ∃ k, (Y (pos (fun i => (Y i).k) (kn O S un) n)).k = k := ⟨_, rfl⟩
  rw [hkp] at D3 HYB
  have HKP := Lib.hid hkp
  clear hkp HASK ha hh
  have Z := Lib.hid (Below.refl x1.heap.size x1)
  obtain ⟨u0, u1, -, -, -, -⟩ := LS1.out.cells6
  obtain ⟨v0, v1, v2, v3, v4, v5, v6, v7, v8, v9, v10⟩ := LN1.out.cells11
  have hz1 : x1.heap.size ≠ gs := Nat.ne_of_gt LS1.out.lt
  have hz2 : x1.heap.size ≠ gC + 1 := Nat.ne_of_gt LN1.out.lt
  have GB := Lib.hid (show gs + 1 ≤ x1.heap.size from LS1.out.lt)
  have GB2 : Hid (gs + 1 ≤ (x1.alloc (.cells #[.int .u32 0, .int .i64 0, .bool false, .slice none 0 0, .int .i64 0, .slice none 0 0] 34)).heap.size) := Lib.hid (Nat.le_trans GB.out (by simp))
  go_cut [6, 7, 8] (fun s6 s7 s8 W => s6 = .int .i64 2 ∧ s8 = .int .i64 0 ∧ ∃ g bA bd bB be, s7 = .pointer (some ⟨g, 0, none⟩) ∧ Lies W g 34 #[.int .u32 (kp.o : Int), .int .i64 kp.s, .bool kp.u, .slice bA kp.a.length bd, .int .i64 kp.c, .slice bB kp.r.length be] ∧ Own W (gs + 1) (.slice bA kp.a.length bd) kp.a ∧ Own W (gs + 1) (.slice bB kp.r.length be) kp.r ∧ x1.heap.size ≤ g ∧ Below x1.heap.size x1 W)
  case first =>
    as_aux_lemma =>
      go_region_held3 (fun W => W.cell? ⟨gs, 0, none⟩ = some (.int .u32 (ep : Int)) ∧ W.cell? ⟨gs, 1, none⟩ = some (.slice A n c) ∧ W.cell? ⟨gC + 1, 0, none⟩ = some (.int .i64 7) ∧ W.cell? ⟨gC + 1, 1, none⟩ = some (.int .u32 (E : Int)) ∧ W.cell? ⟨gC + 1, 2, none⟩ = some (.int .u32 0) ∧ W.cell? ⟨gC + 1, 3, none⟩ = some (.int .u64 0) ∧ W.cell? ⟨gC + 1, 4, none⟩ = some (.int .u64 0) ∧ W.cell? ⟨gC + 1, 5, none⟩ = some (.int .u32 (O : Int)) ∧ W.cell? ⟨gC + 1, 6, none⟩ = some (.int .i64 S) ∧ W.cell? ⟨gC + 1, 7, none⟩ = some (.bool un) ∧ W.cell? ⟨gC + 1, 8, none⟩ = some (.int .i64 0) ∧ W.cell? ⟨gC + 1, 9, none⟩ = some (.slice none 0 0) ∧ W.cell? ⟨gC + 1, 10, none⟩ = some (.slice Ad ld cd)) (first | (with_reducible exact ⟨u0, u1, v0, v1, v2, v3, v4, v5, v6, v7, v8, v9, v10⟩) | go_keep)
        (first
        | (go_at_call 14; (with_reducible refine (D3.out x1.drew Z.out.drew).mono ?_); (rintro x wb ⟨bA, bd, bB, be, rfl, oa, ob, hb⟩); (have O1 := Lib.hid (oa.mono GB.out)); (have O2 := Lib.hid (ob.mono GB.out)); (have Z := Lib.hid (Z.out.drew.trans (hb.mono Z.out.size))); (clear u0 u1 v0 v1 v2 v3 v4 v5 v6 v7 v8 v9 v10); (obtain ⟨u0, u1, -, -, -, -⟩ := (Lies.below LS1.out Z.out (Lies.lt LS1.out)).cells6); (obtain ⟨v0, v1, v2, v3, v4, v5, v6, v7, v8, v9, v10⟩ := (Lies.below LN1.out Z.out (Lies.lt LN1.out)).cells11); (have hy1 : wb.heap.size ≠ gs := Nat.ne_of_gt (Nat.lt_of_lt_of_le LS1.out.lt Z.out.size)); (have hy2 : wb.heap.size ≠ gC + 1 := Nat.ne_of_gt (Nat.lt_of_lt_of_le LN1.out.lt Z.out.size)); (clear oa ob hb))
        | (go_at_call 14; (with_reducible refine (D3.out (x1.alloc (.cells #[.int .u32 0, .int .i64 0, .bool false, .slice none 0 0, .int .i64 0, .slice none 0 0] 34)).drew (Z.out.alloc Z.out.size (.cells #[.int .u32 0, .int .i64 0, .bool false, .slice none 0 0, .int .i64 0, .slice none 0 0] 34)).drew).mono ?_); (rintro x wb ⟨bA, bd, bB, be, rfl, oa, ob, hb⟩); (have O1 := Lib.hid (oa.mono GB2.out)); (have O2 := Lib.hid (ob.mono GB2.out)); (have LZ2 := Lib.hid (Lies.below (Lies.drew (Lies.made x1 34 #[.int .u32 0, .int .i64 0, .bool false, .slice none 0 0, .int .i64 0, .slice none 0 0])) hb (Lies.lt (Lies.made x1 34 #[.int .u32 0, .int .i64 0, .bool false, .slice none 0 0, .int .i64 0, .slice none 0 0])))); (have GZ := Lib.hid (Nat.le_refl x1.heap.size)); (obtain ⟨zc0, zc1, zc2, zc3, zc4, zc5⟩ := LZ2.out.cells6); (obtain ⟨zf0, zf1, zf2, zf3, zf4, zf5⟩ := LZ2.out.free6); (have Z := Lib.hid ((Z.out.alloc Z.out.size (.cells #[.int .u32 0, .int .i64 0, .bool false, .slice none 0 0, .int .i64 0, .slice none 0 0] 34)).drew.trans (hb.mono (Z.out.alloc Z.out.size (.cells #[.int .u32 0, .int .i64 0, .bool false, .slice none 0 0, .int .i64 0, .slice none 0 0] 34)).size))); (clear u0 u1 v0 v1 v2 v3 v4 v5 v6 v7 v8 v9 v10); (obtain ⟨u0, u1, -, -, -, -⟩ := (Lies.below LS1.out Z.out (Lies.lt LS1.out)).cells6); (obtain ⟨v0, v1, v2, v3, v4, v5, v6, v7, v8, v9, v10⟩ := (Lies.below LN1.out Z.out (Lies.lt LN1.out)).cells11); (have hy1 : wb.heap.size ≠ gs := Nat.ne_of_gt (Nat.lt_of_lt_of_le LS1.out.lt Z.out.size)); (have hy2 : wb.heap.size ≠ gC + 1 := Nat.ne_of_gt (Nat.lt_of_lt_of_le LN1.out.lt Z.out.size)); (clear oa ob hb)))
      all_goals
        go_wp2_with fail
        go_meet
        first
        | (with_reducible exact ⟨rfl, rfl, _, _, _, _, _, rfl, (Lies.put6 LZ2.out _ _ _ _ _ _), (Own.put6 O1.out LZ2.out (by decide) _ _ _ _ _ _), (Own.put6 O2.out LZ2.out (by decide) _ _ _ _ _ _), GZ.out, (below_put6 Z.out GZ.out _ _ _ _ _ _)⟩)
        | (with_reducible exact ⟨rfl, rfl, _, _, _, _, _, rfl, (Lies.made wb 34 #[.int .u32 (kp.o : Int), .int .i64 kp.s, .bool kp.u, .slice bA kp.a.length bd, .int .i64 kp.c, .slice bB kp.r.length be]), (Own.alloc O1.out _), (Own.alloc O2.out _), Z.out.size, (Z.out.alloc Z.out.size (.cells #[.int .u32 (kp.o : Int), .int .i64 kp.s, .bool kp.u, .slice bA kp.a.length bd, .int .i64 kp.c, .slice bB kp.r.length be] 34))⟩)
  case rest =>
    obtain ⟨rfl, rfl, gK, bA, bd, bB, be, rfl, hLK, hO1, hO2, hgK, hBy⟩ := hcut
    generalize wc = x2 at *
    have SM2 := Lib.hid (SM1.out.below hBy)
    have LS2 : Hid (Lies x2 gs 62 #[.int .u32 (ep : Int), .slice A n c, .slice Da nd dc, .slice Ta nt tc, .slice Oa no oc, .bool false]) := Lib.hid SM2.out.box
    have LC2 := Lib.hid (LC1.out.below hBy LC1.out.lt)
    have LN2 := Lib.hid (LN1.out.below hBy LN1.out.lt)
    have HF2 : Hid (FV x2 A n c (fun i => (Y i).k)) := Lib.hid (HF1.out.below hBy)
    have HN2 := Lib.hid (HN1.out.below hBy)
    have LK := Lib.hid hLK
    have OK1 := Lib.hid hO1
    have OK2 := Lib.hid hO2
    have HGK := Lib.hid hgK
    have B12 := Lib.hid hBy
    clear hLK hO1 hO2 hgK hBy D3 u0 u1 v0 v1 v2 v3 v4 v5 v6 v7 v8 v9 v10 hz1 hz2 GB GB2 Z LS1 LC1 LN1 HF1 HN1
    obtain ⟨m0, m1, m2, m3, m4, m5⟩ := LS2.out.cells6
    obtain ⟨f0, f1, f2, f3, f4, f5⟩ := LS2.out.free6
    obtain ⟨v0, v1, v2, v3, v4, v5, v6, v7, v8, v9, v10⟩ := LN2.out.cells11
    obtain ⟨o0, o1, o2, o3, o4, o5⟩ := LC2.out.cells6
    go_wp2_with fail
    clear m0 m1 m2 m3 m4 m5 f0 f1 f2 f3 f4 f5 v0 v1 v2 v3 v4 v5 v6 v7 v8 v9 v10 o0 o1 o2 o3 o4 o5
    have HNE := Lib.hid (show gK ≠ gs by have := SM1.out.lt; have := HGK.out; omega)
    have LSx : Hid (Lies x2 gs 62 #[.int .u32 (ep : Int), .slice A n c, .slice Da nd dc, .slice Ta nt tc, .slice Oa no oc, .bool false]) := Lib.hid SM2.out.box
    obtain ⟨gl0, gl1, gl2, gl3, gl4, gl5⟩ := LSx.out.cells6
    obtain ⟨gf0, gf1, gf2, gf3, gf4, gf5⟩ := LSx.out.free6
    obtain ⟨-, -, ga2, ga3, ga4, -⟩ := Lies.cells6 (LSx.out.alloc (.cells #[.int .u32 (kp.o : Int), .int .i64 kp.s, .bool kp.u, .slice bA kp.a.length bd, .int .i64 kp.c, .slice bB kp.r.length be] 34))
    have GA := Lib.hid ga3
    clear ga2 ga3 ga4
    have HGL := Lib.hid (show gs + 1 ≤ (x2.alloc (.cells #[.int .u32 (kp.o : Int), .int .i64 kp.s, .bool kp.u, .slice bA kp.a.length bd, .int .i64 kp.c, .slice bB kp.r.length be] 34)).heap.size from Nat.le_trans LSx.out.lt (by simp))
    refine wp_region_noPanic ?_
    refine wp_region_held_drew (S := fun W => W.cell? ⟨gK, 0, none⟩ = some (.int .u32 (kp.o : Int)) ∧ W.cell? ⟨gK, 1, none⟩ = some (.int .i64 kp.s) ∧ W.cell? ⟨gK, 2, none⟩ = some (.bool kp.u) ∧ W.cell? ⟨gK, 3, none⟩ = some (.slice bA kp.a.length bd) ∧ W.cell? ⟨gK, 4, none⟩ = some (.int .i64 kp.c) ∧ W.cell? ⟨gK, 5, none⟩ = some (.slice bB kp.r.length be)) (by kernel_rfl) LK.out.cells6 (fun hH0 => ?_)
    refine any_take 0 89 ?vc1x0 rfl rfl (by kernel_rfl) (by kernel_rfl) (by kernel_rfl) (fun _ _ _ h => h) (by rfl) ?hyc1x0 hH0 ?restc1x0
    case hyc1x0 => ((intro W hSw); obtain ⟨s0, s1, s2, s3, s4, s5⟩ := hSw; go_simp; (try with_reducible rfl))
    try simp only [Act.put, List.setIfInBounds_toArray, List.set_cons_zero, List.set_cons_succ]
    refine any_take 1 90 ?vc1x1 rfl rfl (by kernel_rfl) (by kernel_rfl) (by kernel_rfl) (fun _ _ _ h => h) (by rfl) ?hyc1x1 hH0 ?restc1x1
    case hyc1x1 => ((intro W hSw); obtain ⟨s0, s1, s2, s3, s4, s5⟩ := hSw; go_simp; (try with_reducible rfl))
    try simp only [Act.put, List.setIfInBounds_toArray, List.set_cons_zero, List.set_cons_succ]
    refine any_take 2 91 ?vc1x2 rfl rfl (by kernel_rfl) (by kernel_rfl) (by kernel_rfl) (fun _ _ _ h => h) (by rfl) ?hyc1x2 hH0 ?restc1x2
    case hyc1x2 => ((intro W hSw); obtain ⟨s0, s1, s2, s3, s4, s5⟩ := hSw; go_simp; (try with_reducible rfl))
    try simp only [Act.put, List.setIfInBounds_toArray, List.set_cons_zero, List.set_cons_succ]
    refine any_take 3 92 ?vc1x3 rfl rfl (by kernel_rfl) (by kernel_rfl) (by kernel_rfl) (fun _ _ _ h => h) (by rfl) ?hyc1x3 hH0 ?restc1x3
    case hyc1x3 => ((intro W hSw); obtain ⟨s0, s1, s2, s3, s4, s5⟩ := hSw; go_simp; (try with_reducible rfl))
    try simp only [Act.put, List.setIfInBounds_toArray, List.set_cons_zero, List.set_cons_succ]
    refine any_take 5 94 ?vc1x5 rfl rfl (by kernel_rfl) (by kernel_rfl) (by kernel_rfl) (fun _ _ _ h => h) (by rfl) ?hyc1x5 hH0 ?restc1x5
    case hyc1x5 => ((intro W hSw); obtain ⟨s0, s1, s2, s3, s4, s5⟩ := hSw; go_simp; (try with_reducible rfl))
    try simp only [Act.put, List.setIfInBounds_toArray, List.set_cons_zero, List.set_cons_succ]
    refine wpAnyH_ready (rs := [4, 6]) (by kernel_rfl) (by simp) ?_
    refine AllReadyH.cons rfl (fun K hK => ?_) (AllReadyH.cons rfl (fun K hK => ?_) AllReadyH.nil)
    · go_simp
      refine hK.out _ _ (LK.out.cells6) (fun hH1 => ?_)
      clear hK K hH0
      try simp only [Act.put, List.setIfInBounds_toArray, List.set_cons_zero, List.set_cons_succ]
      refine wpAnyH_ready (rs := [6]) (by kernel_rfl) (by simp) ?_
      refine AllReadyH.cons rfl (fun K hK => ?_) AllReadyH.nil
      go_simp
      refine hK.out _ _ (Lies.cells6 (LK.out.alloc (.cells #[.int .u32 (kp.o : Int), .int .i64 kp.s, .bool kp.u, .slice bA kp.a.length bd, .int .i64 kp.c, .slice bB kp.r.length be] 34))) (fun hH2 => ?_)
      clear hK K hH1
      try simp only [Act.put, List.setIfInBounds_toArray, List.set_cons_zero, List.set_cons_succ]
      refine wpAnyH_ready (rs := [7]) (by kernel_rfl) (by simp) ?_
      refine AllReadyH.cons rfl (fun K hK => ?_) AllReadyH.nil
      refine stp_appendK (some 96) _ _ _ (.tmp 93) (.tmp 95) (gs + 1) (.slice Ta nt tc) nt U x2.heap.size ⟨kp, .slice bA kp.a.length bd, .slice bB kp.r.length be⟩ rfl rfl (OwnK.drew (SM2.out.t.row.alloc (.cells #[.int .u32 (kp.o : Int), .int .i64 kp.s, .bool kp.u, .slice bA kp.a.length bd, .int .i64 kp.c, .slice bB kp.r.length be] 34))) (Lies.drew (Lies.made x2 34 #[.int .u32 (kp.o : Int), .int .i64 kp.s, .bool kp.u, .slice bA kp.a.length bd, .int .i64 kp.c, .slice bB kp.r.length be])) ⟨rfl, rfl⟩ (by have := HNN.out.2.1; omega) HGL.out ?_
      intro gg cap w9 ho9 hg9 hb9
      have LK9 := Lib.hid (Lies.grown (Lies.drew (LK.out.alloc (.cells #[.int .u32 (kp.o : Int), .int .i64 kp.s, .bool kp.u, .slice bA kp.a.length bd, .int .i64 kp.c, .slice bB kp.r.length be] 34))) hg9 (fun q => by have := SM1.out.t.row.blockLt _ q.symm; have := HGK.out; omega))
      have SMn := Lib.hid (SM.told (y := ⟨kp, .slice bA kp.a.length bd, .slice bB kp.r.length be⟩) (SM.drew (SM2.out.alloc (.cells #[.int .u32 (kp.o : Int), .int .i64 kp.s, .bool kp.u, .slice bA kp.a.length bd, .int .i64 kp.c, .slice bB kp.r.length be] 34))) (Own.drew (OK1.out.alloc _)) (Own.drew (OK2.out.alloc _)) HYB.out ho9 hg9 hb9)
      have LS9 := Lib.hid (Lies.grown (Lies.drew (LSx.out.alloc (.cells #[.int .u32 (kp.o : Int), .int .i64 kp.s, .bool kp.u, .slice bA kp.a.length bd, .int .i64 kp.c, .slice bB kp.r.length be] 34))) hg9 (fun q => by have := (SM2.out.t.row).block _ q.symm; omega))
      clear ho9 hg9 hb9
      obtain ⟨t0, t1, t2, t3, t4, t5⟩ := LS9.out.cells6
      obtain ⟨r0, r1, r2, r3, r4, r5⟩ := LS9.out.free6
      refine hK.out _ _ (LK9.out.cells6) (fun hH3 => ?_)
      clear hK K hH2
      try simp only [Act.put, List.setIfInBounds_toArray, List.set_cons_zero, List.set_cons_succ]
      refine any_take 8 97 ?vc2x8 rfl rfl (by kernel_rfl) (by kernel_rfl) (by kernel_rfl) (fun _ _ _ h => h) (by rfl) ?hyc2x8 hH3 ?restc2x8
      case hyc2x8 => ((intro W hSw); obtain ⟨s0, s1, s2, s3, s4, s5⟩ := hSw; go_simp; (try with_reducible rfl))
      try simp only [Act.put, List.setIfInBounds_toArray, List.set_cons_zero, List.set_cons_succ]
      refine any_take 9 98 ?vc2x9 rfl rfl (by kernel_rfl) (by kernel_rfl) (by kernel_rfl) (fun _ _ _ h => h) (by rfl) ?hyc2x9 hH3 ?restc2x9
      case hyc2x9 => ((intro W hSw); obtain ⟨s0, s1, s2, s3, s4, s5⟩ := hSw; go_simp; (try with_reducible rfl))
      try simp only [Act.put, List.setIfInBounds_toArray, List.set_cons_zero, List.set_cons_succ]
      refine wpAnyH_ready (rs := [10]) (by kernel_rfl) (by simp) ?_
      refine AllReadyH.cons rfl (fun K hK => ?_) AllReadyH.nil
      go_simp
      have LKn := Lib.hid (LK9.out.other (a := ⟨gs, 3, none⟩) HNE.out (.slice (some ⟨gg, 0, none⟩) (nt + 1) cap))
      refine hK.out _ _ (LKn.out.cells6) (fun hH4 => ?_)
      clear hK K hH3 hH4
      try simp only [Act.put, List.setIfInBounds_toArray, List.set_cons_zero, List.set_cons_succ]
      refine wpAnyH_done (by kernel_rfl) ?_ _
      refine NoPanic.normal ?_
      clear t0 t1 t2 t3 t4 t5 r0 r1 r2 r3 r4 r5 gl0 gl1 gl2 gl3 gl4 gl5 gf0 gf1 gf2 gf3 gf4 gf5 GA LK9 LS9
      go_wp2
      go_end0
      exact ⟨rfl, _, SMn.out, (HI.out.told HP.out).congr (fun i hi => rfl) (fun i hi => rfl) (fun i hi => by rw [HKP.out]; exact (snoc_congr (m := nt) (X := U) (x := ⟨kp, .slice bA kp.a.length bd, .slice bB kp.r.length be⟩)).symm) (fun i hi => rfl), by simp, by simp, by simp, by simp⟩
    · go_simp
      refine hK.out _ _ (Lies.cells6 (LK.out.alloc (.cells #[.int .u32 (kp.o : Int), .int .i64 kp.s, .bool kp.u, .slice bA kp.a.length bd, .int .i64 kp.c, .slice bB kp.r.length be] 34))) (fun hH1 => ?_)
      clear hK K hH0
      try simp only [Act.put, List.setIfInBounds_toArray, List.set_cons_zero, List.set_cons_succ]
      have e5 := GA.out
      refine wpAnyH_ready (rs := [4]) (by kernel_rfl) (by simp) ?_
      refine AllReadyH.cons rfl (fun K hK => ?_) AllReadyH.nil
      go_simp
      refine hK.out _ _ (Lies.cells6 (LK.out.alloc (.cells #[.int .u32 (kp.o : Int), .int .i64 kp.s, .bool kp.u, .slice bA kp.a.length bd, .int .i64 kp.c, .slice bB kp.r.length be] 34))) (fun hH2 => ?_)
      clear hK K hH1
      try simp only [Act.put, List.setIfInBounds_toArray, List.set_cons_zero, List.set_cons_succ]
      clear e5
      refine wpAnyH_ready (rs := [7]) (by kernel_rfl) (by simp) ?_
      refine AllReadyH.cons rfl (fun K hK => ?_) AllReadyH.nil
      refine stp_appendK (some 96) _ _ _ (.tmp 93) (.tmp 95) (gs + 1) (.slice Ta nt tc) nt U x2.heap.size ⟨kp, .slice bA kp.a.length bd, .slice bB kp.r.length be⟩ rfl rfl (OwnK.drew (SM2.out.t.row.alloc (.cells #[.int .u32 (kp.o : Int), .int .i64 kp.s, .bool kp.u, .slice bA kp.a.length bd, .int .i64 kp.c, .slice bB kp.r.length be] 34))) (Lies.drew (Lies.made x2 34 #[.int .u32 (kp.o : Int), .int .i64 kp.s, .bool kp.u, .slice bA kp.a.length bd, .int .i64 kp.c, .slice bB kp.r.length be])) ⟨rfl, rfl⟩ (by have := HNN.out.2.1; omega) HGL.out ?_
      intro gg cap w9 ho9 hg9 hb9
      have LK9 := Lib.hid (Lies.grown (Lies.drew (LK.out.alloc (.cells #[.int .u32 (kp.o : Int), .int .i64 kp.s, .bool kp.u, .slice bA kp.a.length bd, .int .i64 kp.c, .slice bB kp.r.length be] 34))) hg9 (fun q => by have := SM1.out.t.row.blockLt _ q.symm; have := HGK.out; omega))
      have SMn := Lib.hid (SM.told (y := ⟨kp, .slice bA kp.a.length bd, .slice bB kp.r.length be⟩) (SM.drew (SM2.out.alloc (.cells #[.int .u32 (kp.o : Int), .int .i64 kp.s, .bool kp.u, .slice bA kp.a.length bd, .int .i64 kp.c, .slice bB kp.r.length be] 34))) (Own.drew (OK1.out.alloc _)) (Own.drew (OK2.out.alloc _)) HYB.out ho9 hg9 hb9)
      have LS9 := Lib.hid (Lies.grown (Lies.drew (LSx.out.alloc (.cells #[.int .u32 (kp.o : Int), .int .i64 kp.s, .bool kp.u, .slice bA kp.a.length bd, .int .i64 kp.c, .slice bB kp.r.length be] 34))) hg9 (fun q => by have := (SM2.out.t.row).block _ q.symm; omega))
      clear ho9 hg9 hb9
      obtain ⟨t0, t1, t2, t3, t4, t5⟩ := LS9.out.cells6
      obtain ⟨r0, r1, r2, r3, r4, r5⟩ := LS9.out.free6
      refine hK.out _ _ (LK9.out.cells6) (fun hH3 => ?_)
      clear hK K hH2
      try simp only [Act.put, List.setIfInBounds_toArray, List.set_cons_zero, List.set_cons_succ]
      refine any_take 8 97 ?vc3x8 rfl rfl (by kernel_rfl) (by kernel_rfl) (by kernel_rfl) (fun _ _ _ h => h) (by rfl) ?hyc3x8 hH3 ?restc3x8
      case hyc3x8 => ((intro W hSw); obtain ⟨s0, s1, s2, s3, s4, s5⟩ := hSw; go_simp; (try with_reducible rfl))
      try simp only [Act.put, List.setIfInBounds_toArray, List.set_cons_zero, List.set_cons_succ]
      refine any_take 9 98 ?vc3x9 rfl rfl (by kernel_rfl) (by kernel_rfl) (by kernel_rfl) (fun _ _ _ h => h) (by rfl) ?hyc3x9 hH3 ?restc3x9
      case hyc3x9 => ((intro W hSw); obtain ⟨s0, s1, s2, s3, s4, s5⟩ := hSw; go_simp; (try with_reducible rfl))
      try simp only [Act.put, List.setIfInBounds_toArray, List.set_cons_zero, List.set_cons_succ]
      refine wpAnyH_ready (rs := [10]) (by kernel_rfl) (by simp) ?_
      refine AllReadyH.cons rfl (fun K hK => ?_) AllReadyH.nil
      go_simp
      have LKn := Lib.hid (LK9.out.other (a := ⟨gs, 3, none⟩) HNE.out (.slice (some ⟨gg, 0, none⟩) (nt + 1) cap))
      refine hK.out _ _ (LKn.out.cells6) (fun hH4 => ?_)
      clear hK K hH3 hH4
      try simp only [Act.put, List.setIfInBounds_toArray, List.set_cons_zero, List.set_cons_succ]
      refine wpAnyH_done (by kernel_rfl) ?_ _
      refine NoPanic.normal ?_
      clear t0 t1 t2 t3 t4 t5 r0 r1 r2 r3 r4 r5 gl0 gl1 gl2 gl3 gl4 gl5 gf0 gf1 gf2 gf3 gf4 gf5 GA LK9 LS9
      go_wp2
      go_end0
      exact ⟨rfl, _, SMn.out, (HI.out.told HP.out).congr (fun i hi => rfl) (fun i hi => rfl) (fun i hi => by rw [HKP.out]; exact (snoc_congr (m := nt) (X := U) (x := ⟨kp, .slice bA kp.a.length bd, .slice bB kp.r.length be⟩)).symm) (fun i hi => rfl), by simp, by simp, by simp, by simp⟩
set_option maxHeartbeats 16000000 in
theorem calls_again_f (w0 : World) (gs : Nat) (s : St) (e od : Nat) (st : Int) (un : Bool) (Ad : Option Addr) (cd : Nat) (gd : Bool) (l : List Nat) (w : World) (E O : Nat) (S : Int) (hM : SM w0 gs s w) (hI : s.inv) (he : e < 4294967296) (ho : od < 4294967296) (hB : Bys w0 Ad l.length l) (hc : l.length ≤ cd) (hcm : cd ≤ maxLen) (hA : Ad = none → cd = 0) (hn : s.n < 200) (hb1 : s.nt < 200 ∧ s.nd < 200 ∧ s.no < 200) (hE : (1 + (e : Int) % 6) = (E : Int)) (hO : (1 + (od : Int) % 4) = (O : Int)) (hS : wrap64 ((IntKind.u64.wrap st).tmod 3) = S) (hq : Rq E O S l) (hgd : gd = false) (hs : ¬ E < s.ep) (hh : has s.n (fun i => (s.Y i).k) (kn O S un) = true) (ha : (s.Y (pos (fun i => (s.Y i).k) (kn O S un) s.n)).k.a = l) :
    Calls Try.prog 51 #[.pointer (some ⟨gs, 0, none⟩), .agg #[.int .u32 (e : Int), .int .u32 (od : Int), .int .i64 st, .bool un, .slice Ad l.length cd, .bool gd]] w (CallPost w0 gs s) := by
  subst hgd
  obtain ⟨ep, A, n, c, Y, Da, nd, dc, D, Ta, nt, tc, U, Oa, no, oc, Ov⟩ := s
  have hI2 : Inv ep n (fun i => (Y i).k) nd (fun i => (D i).k) nt (fun i => (U i).k) no (fun i => (Ov i).k) := hI
  dsimp only at hn hb1 hs hh ha
  have hask := (ask_has (un := un) hI2 hq hs hh).trans (if_pos ha)
  have hep : ep < 4294967296 := by have := hI2.ep; omega
  have hEb : E < 4294967296 := by have := hq.e2; omega
  have hOb : O < 4294967296 := by have := hq.o2; omega
  have SM1 : Hid (SM w0 gs (⟨ep, A, n, c, Y, Da, nd, dc, D, Ta, nt, tc, U, Oa, no, oc, Ov⟩ : St) ((w.alloc (.cells #[.int .u32 (e : Int), .int .u32 (od : Int), .int .i64 st, .bool un, .slice Ad l.length cd, .bool false] 77)).alloc (.cells #[.int .i64 7, .int .u32 (1 + (e : Int) % 6), .int .u32 0, .int .u64 0, .int .u64 0, .int .u32 (1 + (od : Int) % 4), .int .i64 (wrap64 ((IntKind.u64.wrap st).tmod 3)), .bool un, .int .i64 0, .slice none 0 0, .slice Ad l.length cd] 29))) := Lib.hid ((hM.alloc _).alloc _)
  have LS1 : Hid (Lies ((w.alloc (.cells #[.int .u32 (e : Int), .int .u32 (od : Int), .int .i64 st, .bool un, .slice Ad l.length cd, .bool false] 77)).alloc (.cells #[.int .i64 7, .int .u32 (1 + (e : Int) % 6), .int .u32 0, .int .u64 0, .int .u64 0, .int .u32 (1 + (od : Int) % 4), .int .i64 (wrap64 ((IntKind.u64.wrap st).tmod 3)), .bool un, .int .i64 0, .slice none 0 0, .slice Ad l.length cd] 29)) gs 62 #[.int .u32 (ep : Int), .slice A n c, .slice Da nd dc, .slice Ta nt tc, .slice Oa no oc, .bool false]) := Lib.hid SM1.out.box
  have LC1 : Hid (Lies ((w.alloc (.cells #[.int .u32 (e : Int), .int .u32 (od : Int), .int .i64 st, .bool un, .slice Ad l.length cd, .bool false] 77)).alloc (.cells #[.int .i64 7, .int .u32 (1 + (e : Int) % 6), .int .u32 0, .int .u64 0, .int .u64 0, .int .u32 (1 + (od : Int) % 4), .int .i64 (wrap64 ((IntKind.u64.wrap st).tmod 3)), .bool un, .int .i64 0, .slice none 0 0, .slice Ad l.length cd] 29)) w.heap.size 77 #[.int .u32 (e : Int), .int .u32 (od : Int), .int .i64 st, .bool un, .slice Ad l.length cd, .bool false]) := Lib.hid ((Lies.made w 77 #[.int .u32 (e : Int), .int .u32 (od : Int), .int .i64 st, .bool un, .slice Ad l.length cd, .bool false]).alloc _)
  have LN1 : Hid (Lies ((w.alloc (.cells #[.int .u32 (e : Int), .int .u32 (od : Int), .int .i64 st, .bool un, .slice Ad l.length cd, .bool false] 77)).alloc (.cells #[.int .i64 7, .int .u32 (1 + (e : Int) % 6), .int .u32 0, .int .u64 0, .int .u64 0, .int .u32 (1 + (od : Int) % 4), .int .i64 (wrap64 ((IntKind.u64.wrap st).tmod 3)), .bool un, .int .i64 0, .slice none 0 0, .slice Ad l.length cd] 29)) (w.heap.size + 1) 29 #[.int .i64 7, .int .u32 (1 + (e : Int) % 6), .int .u32 0, .int .u64 0, .int .u64 0, .int .u32 (1 + (od : Int) % 4), .int .i64 (wrap64 ((IntKind.u64.wrap st).tmod 3)), .bool un, .int .i64 0, .slice none 0 0, .slice Ad l.length cd]) := Lib.hid (Lies.made2 w (.cells #[.int .u32 (e : Int), .int .u32 (od : Int), .int .i64 st, .bool un, .slice Ad l.length cd, .bool false] 77) 29 #[.int .i64 7, .int .u32 (1 + (e : Int) % 6), .int .u32 0, .int .u64 0, .int .u64 0, .int .u32 (1 + (od : Int) % 4), .int .i64 (wrap64 ((IntKind.u64.wrap st).tmod 3)), .bool un, .int .i64 0, .slice none 0 0, .slice Ad l.length cd])
  have HF1 : Hid (FV ((w.alloc (.cells #[.int .u32 (e : Int), .int .u32 (od : Int), .int .i64 st, .bool un, .slice Ad l.length cd, .bool false] 77)).alloc (.cells #[.int .i64 7, .int .u32 (1 + (e : Int) % 6), .int .u32 0, .int .u64 0, .int .u64 0, .int .u32 (1 + (od : Int) % 4), .int .i64 (wrap64 ((IntKind.u64.wrap st).tmod 3)), .bool un, .int .i64 0, .slice none 0 0, .slice Ad l.length cd] 29)) A n c (fun i => (Y i).k)) := Lib.hid SM1.out.fv
  have HN1 : Hid (EntV ((w.alloc (.cells #[.int .u32 (e : Int), .int .u32 (od : Int), .int .i64 st, .bool un, .slice Ad l.length cd, .bool false] 77)).alloc (.cells #[.int .i64 7, .int .u32 (1 + (e : Int) % 6), .int .u32 0, .int .u64 0, .int .u64 0, .int .u32 (1 + (od : Int) % 4), .int .i64 (wrap64 ((IntKind.u64.wrap st).tmod 3)), .bool un, .int .i64 0, .slice none 0 0, .slice Ad l.length cd] 29)) (stN E O S un l) none Ad 0 cd) := Lib.hid (entV_st (hB.below (by rw [hM.hg]; exact SM1.out.bel)) hc hcm hA hEb hOb hq.s64)
  have HGN := Lib.hid (show gs < w.heap.size from hM.lt)
  obtain ⟨m0, m1, m2, m3, m4, m5⟩ := LS1.out.cells6
  obtain ⟨o0, o1, o2, o3, o4, o5⟩ := LC1.out.cells6
  have HE := Lib.hid hE
  have HO := Lib.hid hO
  have HS := Lib.hid hS
  have HQ := Lib.hid hq
  have HI := Lib.hid hI2
  have HASK := Lib.hid hask
  have HNN := Lib.hid (And.intro hn hb1)
  have H64 := Lib.hid hq.s64
  have HEP := Lib.hid hep
  have HP := Lib.hid (has_at hh).1
  have HYB : Hid ((Y (pos (fun i => (Y i).k) (kn O S un) n)).k.o < 4294967296 ∧ in64 (Y (pos (fun i => (Y i).k) (kn O S un) n)).k.s ∧ in64 (Y (pos (fun i => (Y i).k) (kn O S un) n)).k.c) := Lib.hid (hM.f.b _ (has_at hh).1)
  clear hE hO hS hq hI hI2 hM hB hc hcm hA hask hep hEb hOb hn hb1
  go_enter Try.func51, Try.ntmps51
  go_wp2_with fail
  clear m0 m1 m2 m3 m4 m5 o0 o1 o2 o3 o4 o5
  obtain ⟨x1, hx1⟩ : ∃ z, z = ((w.alloc (.cells #[.int .u32 (e : Int), .int .u32 (od : Int), .int .i64 st, .bool un, .slice Ad l.length cd, .bool false] 77)).alloc (.cells #[.int .i64 7, .int .u32 (1 + (e : Int) % 6), .int .u32 0, .int .u64 0, .int .u64 0, .int .u32 (1 + (od : Int) % 4), .int .i64 (wrap64 ((IntKind.u64.wrap st).tmod 3)), .bool un, .int .i64 0, .slice none 0 0, .slice Ad l.length cd] 29)) := ⟨_, rfl⟩
  rw [← hx1]
  rw [← hx1] at SM1 LS1 LC1 LN1 HF1 HN1
  rw [HE.out, HO.out, HS.out]
  rw [HE.out, HO.out, HS.out] at LN1
  clear hx1
  obtain ⟨gC, hgC⟩ : ∃ g, g = w.heap.size := ⟨_, rfl⟩
  rw [← hgC]
  rw [← hgC] at LC1 LN1 HGN
  clear hgC HE HO HS he ho
  obtain ⟨ld, hld⟩ : ∃ k, l.length = k := ⟨_, rfl⟩
  rw [hld]
  rw [hld] at LC1 LN1
  have HLD := Lib.hid hld
  clear hld
  skip
  have D3 := Lib.hid (fun W (hb : Below x1.heap.size x1 W) => ask_st ep A n c (fun i => (Y i).k) E O S un Ad ld cd l W (HF1.out.below hb) (HN1.out.below hb) HLD.out H64.out HEP.out 2 0 (Y (pos (fun i => (Y i).k) (kn O S un) n)).k (by rw [HASK.out]; rfl) (by rw [HASK.out]) (by rw [HASK.out]; rfl))
  obtain ⟨kp, hkp⟩ : ∃ k, (Y (pos (fun i => (Y i).k) (kn O S un) n)).k = k := ⟨_, rfl⟩
  rw [hkp] at D3 HYB
  have HKP := Lib.hid hkp
  clear hkp HASK ha hh
  have Z := Lib.hid (Below.refl x1.heap.size x1)
  obtain ⟨u0, u1, -, -, -, -⟩ := LS1.out.cells6
  obtain ⟨v0, v1, v2, v3, v4, v5, v6, v7, v8, v9, v10⟩ := LN1.out.cells11
  have hz1 : x1.heap.size ≠ gs := Nat.ne_of_gt LS1.out.lt
  have hz2 : x1.heap.size ≠ gC + 1 := Nat.ne_of_gt LN1.out.lt
  have GB := Lib.hid (show gs + 1 ≤ x1.heap.size from LS1.out.lt)
  have GB2 : Hid (gs + 1 ≤ (x1.alloc (.cells #[.int .u32 0, .int .i64 0, .bool false, .slice none 0 0, .int .i64 0, .slice none 0 0] 34)).heap.size) := Lib.hid (Nat.le_trans GB.out (by simp))
  go_cut [6, 7, 8] (fun s6 s7 s8 W => s6 = .int .i64 2 ∧ s8 = .int .i64 0 ∧ ∃ g bA bd bB be, s7 = .pointer (some ⟨g, 0, none⟩) ∧ Lies W g 34 #[.int .u32 (kp.o : Int), .int .i64 kp.s, .bool kp.u, .slice bA kp.a.length bd, .int .i64 kp.c, .slice bB kp.r.length be] ∧ Own W (gs + 1) (.slice bA kp.a.length bd) kp.a ∧ Own W (gs + 1) (.slice bB kp.r.length be) kp.r ∧ x1.heap.size ≤ g ∧ Below x1.heap.size x1 W)
  case first =>
    as_aux_lemma =>
      go_region_held3 (fun W => W.cell? ⟨gs, 0, none⟩ = some (.int .u32 (ep : Int)) ∧ W.cell? ⟨gs, 1, none⟩ = some (.slice A n c) ∧ W.cell? ⟨gC + 1, 0, none⟩ = some (.int .i64 7) ∧ W.cell? ⟨gC + 1, 1, none⟩ = some (.int .u32 (E : Int)) ∧ W.cell? ⟨gC + 1, 2, none⟩ = some (.int .u32 0) ∧ W.cell? ⟨gC + 1, 3, none⟩ = some (.int .u64 0) ∧ W.cell? ⟨gC + 1, 4, none⟩ = some (.int .u64 0) ∧ W.cell? ⟨gC + 1, 5, none⟩ = some (.int .u32 (O : Int)) ∧ W.cell? ⟨gC + 1, 6, none⟩ = some (.int .i64 S) ∧ W.cell? ⟨gC + 1, 7, none⟩ = some (.bool un) ∧ W.cell? ⟨gC + 1, 8, none⟩ = some (.int .i64 0) ∧ W.cell? ⟨gC + 1, 9, none⟩ = some (.slice none 0 0) ∧ W.cell? ⟨gC + 1, 10, none⟩ = some (.slice Ad ld cd)) (first | (with_reducible exact ⟨u0, u1, v0, v1, v2, v3, v4, v5, v6, v7, v8, v9, v10⟩) | go_keep)
        (first
        | (go_at_call 14; (with_reducible refine (D3.out x1.drew Z.out.drew).mono ?_); (rintro x wb ⟨bA, bd, bB, be, rfl, oa, ob, hb⟩); (have O1 := Lib.hid (oa.mono GB.out)); (have O2 := Lib.hid (ob.mono GB.out)); (have Z := Lib.hid (Z.out.drew.trans (hb.mono Z.out.size))); (clear u0 u1 v0 v1 v2 v3 v4 v5 v6 v7 v8 v9 v10); (obtain ⟨u0, u1, -, -, -, -⟩ := (Lies.below LS1.out Z.out (Lies.lt LS1.out)).cells6); (obtain ⟨v0, v1, v2, v3, v4, v5, v6, v7, v8, v9, v10⟩ := (Lies.below LN1.out Z.out (Lies.lt LN1.out)).cells11); (have hy1 : wb.heap.size ≠ gs := Nat.ne_of_gt (Nat.lt_of_lt_of_le LS1.out.lt Z.out.size)); (have hy2 : wb.heap.size ≠ gC + 1 := Nat.ne_of_gt (Nat.lt_of_lt_of_le LN1.out.lt Z.out.size)); (clear oa ob hb))
        | (go_at_call 14; (with_reducible refine (D3.out (x1.alloc (.cells #[.int .u32 0, .int .i64 0, .bool false, .slice none 0 0, .int .i64 0, .slice none 0 0] 34)).drew (Z.out.alloc Z.out.size (.cells #[.int .u32 0, .int .i64 0, .bool false, .slice none 0 0, .int .i64 0, .slice none 0 0] 34)).drew).mono ?_); (rintro x wb ⟨bA, bd, bB, be, rfl, oa, ob, hb⟩); (have O1 := Lib.hid (oa.mono GB2.out)); (have O2 := Lib.hid (ob.mono GB2.out)); (have LZ2 := Lib.hid (Lies.below (Lies.drew (Lies.made x1 34 #[.int .u32 0, .int .i64 0, .bool false, .slice none 0 0, .int .i64 0, .slice none 0 0])) hb (Lies.lt (Lies.made x1 34 #[.int .u32 0, .int .i64 0, .bool false, .slice none 0 0, .int .i64 0, .slice none 0 0])))); (have GZ := Lib.hid (Nat.le_refl x1.heap.size)); (obtain ⟨zc0, zc1, zc2, zc3, zc4, zc5⟩ := LZ2.out.cells6); (obtain ⟨zf0, zf1, zf2, zf3, zf4, zf5⟩ := LZ2.out.free6); (have Z := Lib.hid ((Z.out.alloc Z.out.size (.cells #[.int .u32 0, .int .i64 0, .bool false, .slice none 0 0, .int .i64 0, .slice none 0 0] 34)).drew.trans (hb.mono (Z.out.alloc Z.out.size (.cells #[.int .u32 0, .int .i64 0, .bool false, .slice none 0 0, .int .i64 0, .slice none 0 0] 34)).size))); (clear u0 u1 v0 v1 v2 v3 v4 v5 v6 v7 v8 v9 v10); (obtain ⟨u0, u1, -, -, -, -⟩ := (Lies.below LS1.out Z.out (Lies.lt LS1.out)).cells6); (obtain ⟨v0, v1, v2, v3, v4, v5, v6, v7, v8, v9, v10⟩ := (Lies.below LN1.out Z.out (Lies.lt LN1.out)).cells11); (have hy1 : wb.heap.size ≠ gs := Nat.ne_of_gt (Nat.lt_of_lt_of_le LS1.out.lt Z.out.size)); (have hy2 : wb.heap.size ≠ gC + 1 := Nat.ne_of_gt (Nat.lt_of_lt_of_le LN1.out.lt Z.out.size)); (clear oa ob hb)))
      all_goals
        go_wp2_with fail
        go_meet
        first
        | (with_reducible exact ⟨rfl, rfl, _, _, _, _, _, rfl, (Lies.put6 LZ2.out _ _ _ _ _ _), (Own.put6 O1.out LZ2.out (by decide) _ _ _ _ _ _), (Own.put6 O2.out LZ2.out (by decide) _ _ _ _ _ _), GZ.out, (below_put6 Z.out GZ.out _ _ _ _ _ _)⟩)
        | (with_reducible exact ⟨rfl, rfl, _, _, _, _, _, rfl, (Lies.made wb 34 #[.int .u32 (kp.o : Int), .int .i64 kp.s, .bool kp.u, .slice bA kp.a.length bd, .int .i64 kp.c, .slice bB kp.r.length be]), (Own.alloc O1.out _), (Own.alloc O2.out _), Z.out.size, (Z.out.alloc Z.out.size (.cells #[.int .u32 (kp.o : Int), .int .i64 kp.s, .bool kp.u, .slice bA kp.a.length bd, .int .i64 kp.c, .slice bB kp.r.length be] 34))⟩)
  case rest =>
    obtain ⟨rfl, rfl, gK, bA, bd, bB, be, rfl, hLK, hO1, hO2, hgK, hBy⟩ := hcut
    generalize wc = x2 at *
    have SM2 := Lib.hid (SM1.out.below hBy)
    have LS2 : Hid (Lies x2 gs 62 #[.int .u32 (ep : Int), .slice A n c, .slice Da nd dc, .slice Ta nt tc, .slice Oa no oc, .bool false]) := Lib.hid SM2.out.box
    have LC2 := Lib.hid (LC1.out.below hBy LC1.out.lt)
    have LN2 := Lib.hid (LN1.out.below hBy LN1.out.lt)
    have HF2 : Hid (FV x2 A n c (fun i => (Y i).k)) := Lib.hid (HF1.out.below hBy)
    have HN2 := Lib.hid (HN1.out.below hBy)
    have LK := Lib.hid hLK
    have OK1 := Lib.hid hO1
    have OK2 := Lib.hid hO2
    have HGK := Lib.hid hgK
    have B12 := Lib.hid hBy
    clear hLK hO1 hO2 hgK hBy D3 u0 u1 v0 v1 v2 v3 v4 v5 v6 v7 v8 v9 v10 hz1 hz2 GB GB2 Z LS1 LC1 LN1 HF1 HN1
    obtain ⟨m0, m1, m2, m3, m4, m5⟩ := LS2.out.cells6
    obtain ⟨f0, f1, f2, f3, f4, f5⟩ := LS2.out.free6
    obtain ⟨v0, v1, v2, v3, v4, v5, v6, v7, v8, v9, v10⟩ := LN2.out.cells11
    obtain ⟨o0, o1, o2, o3, o4, o5⟩ := LC2.out.cells6
    go_wp2_with fail
    clear m0 m1 m2 m3 m4 m5 f0 f1 f2 f3 f4 f5 v0 v1 v2 v3 v4 v5 v6 v7 v8 v9 v10 o0 o1 o2 o3 o4 o5
    have HNE := Lib.hid (show gK ≠ gs by have := SM1.out.lt; have := HGK.out; omega)
    have LSx : Hid (Lies x2 gs 62 #[.int .u32 (ep : Int), .slice A n c, .slice Da nd dc, .slice Ta nt tc, .slice Oa no oc, .bool false]) := Lib.hid SM2.out.box
    obtain ⟨gl0, gl1, gl2, gl3, gl4, gl5⟩ := LSx.out.cells6
    obtain ⟨gf0, gf1, gf2, gf3, gf4, gf5⟩ := LSx.out.free6
    obtain ⟨-, -, ga2, ga3, ga4, -⟩ := Lies.cells6 (LSx.out.alloc (.cells #[.int .u32 (kp.o : Int), .int .i64 kp.s, .bool kp.u, .slice bA kp.a.length bd, .int .i64 kp.c, .slice bB kp.r.length be] 34))
    have GA := Lib.hid ga3
    clear ga2 ga3 ga4
    have HGL := Lib.hid (show gs + 1 ≤ (x2.alloc (.cells #[.int .u32 (kp.o : Int), .int .i64 kp.s, .bool kp.u, .slice bA kp.a.length bd, .int .i64 kp.c, .slice bB kp.r.length be] 34)).heap.size from Nat.le_trans LSx.out.lt (by simp))
    refine wp_region_noPanic ?_
    refine wp_region_held_drew (S := fun W => W.cell? ⟨gK, 0, none⟩ = some (.int .u32 (kp.o : Int)) ∧ W.cell? ⟨gK, 1, none⟩ = some (.int .i64 kp.s) ∧ W.cell? ⟨gK, 2, none⟩ = some (.bool kp.u) ∧ W.cell? ⟨gK, 3, none⟩ = some (.slice bA kp.a.length bd) ∧ W.cell? ⟨gK, 4, none⟩ = some (.int .i64 kp.c) ∧ W.cell? ⟨gK, 5, none⟩ = some (.slice bB kp.r.length be)) (by kernel_rfl) LK.out.cells6 (fun hH0 => ?_)
    refine any_take 0 89 ?vc1x0 rfl rfl (by kernel_rfl) (by kernel_rfl) (by kernel_rfl) (fun _ _ _ h => h) (by rfl) ?hyc1x0 hH0 ?restc1x0
    case hyc1x0 => ((intro W hSw); obtain ⟨s0, s1, s2, s3, s4, s5⟩ := hSw; go_simp; (try with_reducible rfl))
    try simp only [Act.put, List.setIfInBounds_toArray, List.set_cons_zero, List.set_cons_succ]
    refine any_take 1 90 ?vc1x1 rfl rfl (by kernel_rfl) (by kernel_rfl) (by kernel_rfl) (fun _ _ _ h => h) (by rfl) ?hyc1x1 hH0 ?restc1x1
    case hyc1x1 => ((intro W hSw); obtain ⟨s0, s1, s2, s3, s4, s5⟩ := hSw; go_simp; (try with_reducible rfl))
    try simp only [Act.put, List.setIfInBounds_toArray, List.set_cons_zero, List.set_cons_succ]
    refine any_take 2 91 ?vc1x2 rfl rfl (by kernel_rfl) (by kernel_rfl) (by kernel_rfl) (fun _ _ _ h => h) (by rfl) ?hyc1x2 hH0 ?restc1x2
    case hyc1x2 => ((intro W hSw); obtain ⟨s0, s1, s2, s3, s4, s5⟩ := hSw; go_simp; (try with_reducible rfl))
    try simp only [Act.put, List.setIfInBounds_toArray, List.set_cons_zero, List.set_cons_succ]
    refine any_take 3 92 ?vc1x3 rfl rfl (by kernel_rfl) (by kernel_rfl) (by kernel_rfl) (fun _ _ _ h => h) (by rfl) ?hyc1x3 hH0 ?restc1x3
    case hyc1x3 => ((intro W hSw); obtain ⟨s0, s1, s2, s3, s4, s5⟩ := hSw; go_simp; (try with_reducible rfl))
    try simp only [Act.put, List.setIfInBounds_toArray, List.set_cons_zero, List.set_cons_succ]
    refine any_take 5 94 ?vc1x5 rfl rfl (by kernel_rfl) (by kernel_rfl) (by kernel_rfl) (fun _ _ _ h => h) (by rfl) ?hyc1x5 hH0 ?restc1x5
    case hyc1x5 => ((intro W hSw); obtain ⟨s0, s1, s2, s3, s4, s5⟩ := hSw; go_simp; (try with_reducible rfl))
    try simp only [Act.put, List.setIfInBounds_toArray, List.set_cons_zero, List.set_cons_succ]
    refine wpAnyH_ready (rs := [4, 6]) (by kernel_rfl) (by simp) ?_
    refine AllReadyH.cons rfl (fun K hK => ?_) (AllReadyH.cons rfl (fun K hK => ?_) AllReadyH.nil)
    · go_simp
      refine hK.out _ _ (LK.out.cells6) (fun hH1 => ?_)
      clear hK K hH0
      try simp only [Act.put, List.setIfInBounds_toArray, List.set_cons_zero, List.set_cons_succ]
      refine wpAnyH_ready (rs := [6]) (by kernel_rfl) (by simp) ?_
      refine AllReadyH.cons rfl (fun K hK => ?_) AllReadyH.nil
      go_simp
      refine hK.out _ _ (Lies.cells6 (LK.out.alloc (.cells #[.int .u32 (kp.o : Int), .int .i64 kp.s, .bool kp.u, .slice bA kp.a.length bd, .int .i64 kp.c, .slice bB kp.r.length be] 34))) (fun hH2 => ?_)
      clear hK K hH1
      try simp only [Act.put, List.setIfInBounds_toArray, List.set_cons_zero, List.set_cons_succ]
      refine wpAnyH_ready (rs := [7]) (by kernel_rfl) (by simp) ?_
      refine AllReadyH.cons rfl (fun K hK => ?_) AllReadyH.nil
      refine stp_appendK (some 96) _ _ _ (.tmp 93) (.tmp 95) (gs + 1) (.slice Ta nt tc) nt U x2.heap.size ⟨kp, .slice bA kp.a.length bd, .slice bB kp.r.length be⟩ rfl rfl (OwnK.drew (SM2.out.t.row.alloc (.cells #[.int .u32 (kp.o : Int), .int .i64 kp.s, .bool kp.u, .slice bA kp.a.length bd, .int .i64 kp.c, .slice bB kp.r.length be] 34))) (Lies.drew (Lies.made x2 34 #[.int .u32 (kp.o : Int), .int .i64 kp.s, .bool kp.u, .slice bA kp.a.length bd, .int .i64 kp.c, .slice bB kp.r.length be])) ⟨rfl, rfl⟩ (by have := HNN.out.2.1; omega) HGL.out ?_
      intro gg cap w9 ho9 hg9 hb9
      have LK9 := Lib.hid (Lies.grown (Lies.drew (LK.out.alloc (.cells #[.int .u32 (kp.o : Int), .int .i64 kp.s, .bool kp.u, .slice bA kp.a.length bd, .int .i64 kp.c, .slice bB kp.r.length be] 34))) hg9 (fun q => by have := SM1.out.t.row.blockLt _ q.symm; have := HGK.out; omega))
      have SMn := Lib.hid (SM.told (y := ⟨kp, .slice bA kp.a.length bd, .slice bB kp.r.length be⟩) (SM.drew (SM2.out.alloc (.cells #[.int .u32 (kp.o : Int), .int .i64 kp.s, .bool kp.u, .slice bA kp.a.length bd, .int .i64 kp.c, .slice bB kp.r.length be] 34))) (Own.drew (OK1.out.alloc _)) (Own.drew (OK2.out.alloc _)) HYB.out ho9 hg9 hb9)
      have LS9 := Lib.hid (Lies.grown (Lies.drew (LSx.out.alloc (.cells #[.int .u32 (kp.o : Int), .int .i64 kp.s, .bool kp.u, .slice bA kp.a.length bd, .int .i64 kp.c, .slice bB kp.r.length be] 34))) hg9 (fun q => by have := (SM2.out.t.row).block _ q.symm; omega))
      clear ho9 hg9 hb9
      obtain ⟨t0, t1, t2, t3, t4, t5⟩ := LS9.out.cells6
      obtain ⟨r0, r1, r2, r3, r4, r5⟩ := LS9.out.free6
      refine hK.out _ _ (LK9.out.cells6) (fun hH3 => ?_)
      clear hK K hH2
      try simp only [Act.put, List.setIfInBounds_toArray, List.set_cons_zero, List.set_cons_succ]
      refine any_take 8 97 ?vc2x8 rfl rfl (by kernel_rfl) (by kernel_rfl) (by kernel_rfl) (fun _ _ _ h => h) (by rfl) ?hyc2x8 hH3 ?restc2x8
      case hyc2x8 => ((intro W hSw); obtain ⟨s0, s1, s2, s3, s4, s5⟩ := hSw; go_simp; (try with_reducible rfl))
      try simp only [Act.put, List.setIfInBounds_toArray, List.set_cons_zero, List.set_cons_succ]
      refine any_take 9 98 ?vc2x9 rfl rfl (by kernel_rfl) (by kernel_rfl) (by kernel_rfl) (fun _ _ _ h => h) (by rfl) ?hyc2x9 hH3 ?restc2x9
      case hyc2x9 => ((intro W hSw); obtain ⟨s0, s1, s2, s3, s4, s5⟩ := hSw; go_simp; (try with_reducible rfl))
      try simp only [Act.put, List.setIfInBounds_toArray, List.set_cons_zero, List.set_cons_succ]
      refine wpAnyH_ready (rs := [10]) (by kernel_rfl) (by simp) ?_
      refine AllReadyH.cons rfl (fun K hK => ?_) AllReadyH.nil
      go_simp
      have LKn := Lib.hid (LK9.out.other (a := ⟨gs, 3, none⟩) HNE.out (.slice (some ⟨gg, 0, none⟩) (nt + 1) cap))
      refine hK.out _ _ (LKn.out.cells6) (fun hH4 => ?_)
      clear hK K hH3 hH4
      try simp only [Act.put, List.setIfInBounds_toArray, List.set_cons_zero, List.set_cons_succ]
      refine wpAnyH_done (by kernel_rfl) ?_ _
      refine NoPanic.normal ?_
      clear t0 t1 t2 t3 t4 t5 r0 r1 r2 r3 r4 r5 gl0 gl1 gl2 gl3 gl4 gl5 gf0 gf1 gf2 gf3 gf4 gf5 GA LK9 LS9
      go_wp2
      go_end0
      exact ⟨rfl, _, SMn.out, (HI.out.told HP.out).congr (fun i hi => rfl) (fun i hi => rfl) (fun i hi => by rw [HKP.out]; exact (snoc_congr (m := nt) (X := U) (x := ⟨kp, .slice bA kp.a.length bd, .slice bB kp.r.length be⟩)).symm) (fun i hi => rfl), by simp, by simp, by simp, by simp⟩
    · go_simp
      refine hK.out _ _ (Lies.cells6 (LK.out.alloc (.cells #[.int .u32 (kp.o : Int), .int .i64 kp.s, .bool kp.u, .slice bA kp.a.length bd, .int .i64 kp.c, .slice bB kp.r.length be] 34))) (fun hH1 => ?_)
      clear hK K hH0
      try simp only [Act.put, List.setIfInBounds_toArray, List.set_cons_zero, List.set_cons_succ]
      have e5 := GA.out
      refine wpAnyH_ready (rs := [4]) (by kernel_rfl) (by simp) ?_
      refine AllReadyH.cons rfl (fun K hK => ?_) AllReadyH.nil
      go_simp
      refine hK.out _ _ (Lies.cells6 (LK.out.alloc (.cells #[.int .u32 (kp.o : Int), .int .i64 kp.s, .bool kp.u, .slice bA kp.a.length bd, .int .i64 kp.c, .slice bB kp.r.length be] 34))) (fun hH2 => ?_)
      clear hK K hH1
      try simp only [Act.put, List.setIfInBounds_toArray, List.set_cons_zero, List.set_cons_succ]
      clear e5
      refine wpAnyH_ready (rs := [7]) (by kernel_rfl) (by simp) ?_
      refine AllReadyH.cons rfl (fun K hK => ?_) AllReadyH.nil
      refine stp_appendK (some 96) _ _ _ (.tmp 93) (.tmp 95) (gs + 1) (.slice Ta nt tc) nt U x2.heap.size ⟨kp, .slice bA kp.a.length bd, .slice bB kp.r.length be⟩ rfl rfl (OwnK.drew (SM2.out.t.row.alloc (.cells #[.int .u32 (kp.o : Int), .int .i64 kp.s, .bool kp.u, .slice bA kp.a.length bd, .int .i64 kp.c, .slice bB kp.r.length be] 34))) (Lies.drew (Lies.made x2 34 #[.int .u32 (kp.o : Int), .int .i64 kp.s, .bool kp.u, .slice bA kp.a.length bd, .int .i64 kp.c, .slice bB kp.r.length be])) ⟨rfl, rfl⟩ (by have := HNN.out.2.1; omega) HGL.out ?_
      intro gg cap w9 ho9 hg9 hb9
      have LK9 := Lib.hid (Lies.grown (Lies.drew (LK.out.alloc (.cells #[.int .u32 (kp.o : Int), .int .i64 kp.s, .bool kp.u, .slice bA kp.a.length bd, .int .i64 kp.c, .slice bB kp.r.length be] 34))) hg9 (fun q => by have := SM1.out.t.row.blockLt _ q.symm; have := HGK.out; omega))
      have SMn := Lib.hid (SM.told (y := ⟨kp, .slice bA kp.a.length bd, .slice bB kp.r.length be⟩) (SM.drew (SM2.out.alloc (.cells #[.int .u32 (kp.o : Int), .int .i64 kp.s, .bool kp.u, .slice bA kp.a.length bd, .int .i64 kp.c, .slice bB kp.r.length be] 34))) (Own.drew (OK1.out.alloc _)) (Own.drew (OK2.out.alloc _)) HYB.out ho9 hg9 hb9)
      have LS9 := Lib.hid (Lies.grown (Lies.drew (LSx.out.alloc (.cells #[.int .u32 (kp.o : Int), .int .i64 kp.s, .bool kp.u, .slice bA kp.a.length bd, .int .i64 kp.c, .slice bB kp.r.length be] 34))) hg9 (fun q => by have := (SM2.out.t.row).block _ q.symm; omega))
      clear ho9 hg9 hb9
      obtain ⟨t0, t1, t2, t3, t4, t5⟩ := LS9.out.cells6
      obtain ⟨r0, r1, r2, r3, r4, r5⟩ := LS9.out.free6
      refine hK.out _ _ (LK9.out.cells6) (fun hH3 => ?_)
      clear hK K hH2
      try simp only [Act.put, List.setIfInBounds_toArray, List.set_cons_zero, List.set_cons_succ]
      refine any_take 8 97 ?vc3x8 rfl rfl (by kernel_rfl) (by kernel_rfl) (by kernel_rfl) (fun _ _ _ h => h) (by rfl) ?hyc3x8 hH3 ?restc3x8
      case hyc3x8 => ((intro W hSw); obtain ⟨s0, s1, s2, s3, s4, s5⟩ := hSw; go_simp; (try with_reducible rfl))
      try simp only [Act.put, List.setIfInBounds_toArray, List.set_cons_zero, List.set_cons_succ]
      refine any_take 9 98 ?vc3x9 rfl rfl (by kernel_rfl) (by kernel_rfl) (by kernel_rfl) (fun _ _ _ h => h) (by rfl) ?hyc3x9 hH3 ?restc3x9
      case hyc3x9 => ((intro W hSw); obtain ⟨s0, s1, s2, s3, s4, s5⟩ := hSw; go_simp; (try with_reducible rfl))
      try simp only [Act.put, List.setIfInBounds_toArray, List.set_cons_zero, List.set_cons_succ]
      refine wpAnyH_ready (rs := [10]) (by kernel_rfl) (by simp) ?_
      refine AllReadyH.cons rfl (fun K hK => ?_) AllReadyH.nil
      go_simp
      have LKn := Lib.hid (LK9.out.other (a := ⟨gs, 3, none⟩) HNE.out (.slice (some ⟨gg, 0, none⟩) (nt + 1) cap))
      refine hK.out _ _ (LKn.out.cells6) (fun hH4 => ?_)
      clear hK K hH3 hH4
      try simp only [Act.put, List.setIfInBounds_toArray, List.set_cons_zero, List.set_cons_succ]
      refine wpAnyH_done (by kernel_rfl) ?_ _
      refine NoPanic.normal ?_
      clear t0 t1 t2 t3 t4 t5 r0 r1 r2 r3 r4 r5 gl0 gl1 gl2 gl3 gl4 gl5 gf0 gf1 gf2 gf3 gf4 gf5 GA LK9 LS9
      go_wp2
      go_end0
      exact ⟨rfl, _, SMn.out, (HI.out.told HP.out).congr (fun i hi => rfl) (fun i hi => rfl) (fun i hi => by rw [HKP.out]; exact (snoc_congr (m := nt) (X := U) (x := ⟨kp, .slice bA kp.a.length bd, .slice bB kp.r.length be⟩)).symm) (fun i hi => rfl), by simp, by simp, by simp, by simp⟩

end Go.Proofs.Ytfcfejmammohpaa
