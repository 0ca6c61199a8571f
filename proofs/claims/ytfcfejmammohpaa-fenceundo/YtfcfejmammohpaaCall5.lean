/-
  A call of a new step: act 1, verdict 1, good true.
-/
import Derived.Test.YtfcfejmammohpaaTail
import Derived.Test.YtfcfejmammohpaaCallN
import Derived.Deep.RegionHeld3
import Derived.Deep.DeepCutAuto
import Derived.Deep.CutRange
import Derived.Deep.CutBlock
namespace Go.Proofs.Ytfcfejmammohpaa
open Go.RowKit
set_option maxRecDepth 100000
set_option linter.unusedVariables false
set_option linter.unusedSimpArgs false

theorem s20 {w : World} {gN gC : Nat} {z0 z1 z2 z3 z4 z5 z6 z7 z8 z9 z10 c0 c1 c2 c3 c4 c5 : Value} (h1 : Lies w gN 29 #[z0, z1, z2, z3, z4, z5, z6, z7, z8, z9, z10]) (h2 : Lies w gC 77 #[c0, c1, c2, c3, c4, c5]) : w.cell? ⟨gN, 5, none⟩ = some z5 ∧ w.cell? ⟨gN, 6, none⟩ = some z6 ∧ w.cell? ⟨gN, 7, none⟩ = some z7 ∧ w.cell? ⟨gC, 4, none⟩ = some c4 := by
  obtain ⟨_, _, _, _, _, a, b, c, _, _, _⟩ := h1.cells11
  obtain ⟨_, _, _, _, d, _⟩ := h2.cells6
  exact ⟨a, b, c, d⟩
set_option maxHeartbeats 16000000 in
theorem calls_5 (w0 : World) (gs : Nat) (s : St) (e od : Nat) (st : Int) (un : Bool) (Ad : Option Addr) (cd : Nat) (gd : Bool) (l : List Nat) (w : World) (E O : Nat) (S : Int) (hM : SM w0 gs s w) (hI : s.inv) (he : e < 4294967296) (ho : od < 4294967296) (hB : Bys w0 Ad l.length l) (hc : l.length ≤ cd) (hcm : cd ≤ maxLen) (hA : Ad = none → cd = 0) (hn : s.n < 200) (hb1 : s.nt < 200 ∧ s.nd < 200 ∧ s.no < 200) (hE : (1 + (e : Int) % 6) = (E : Int)) (hO : (1 + (od : Int) % 4) = (O : Int)) (hS : wrap64 ((IntKind.u64.wrap st).tmod 3) = S) (hq : Rq E O S l) (hgd : gd = true) (hs : ¬ E < s.ep) (hh : has s.n (fun i => (s.Y i).k) (kn O S un) = false) (hact : actN s.n (fun i => (s.Y i).k) (stN E O S un l) = 1) :
    Calls Try.prog 51 #[.pointer (some ⟨gs, 0, none⟩), .agg #[.int .u32 (e : Int), .int .u32 (od : Int), .int .i64 st, .bool un, .slice Ad l.length cd, .bool gd]] w (CallPost w0 gs s) := by
  subst hgd
  obtain ⟨ep, A, n, c, Y, Da, nd, dc, D, Ta, nt, tc, U, Oa, no, oc, Ov⟩ := s
  have hI2 : Inv ep n (fun i => (Y i).k) nd (fun i => (D i).k) nt (fun i => (U i).k) no (fun i => (Ov i).k) := hI
  dsimp only at hn hb1 hs hh hact
  obtain ⟨kp, hask⟩ : ∃ kp, askS ep n (fun i => (Y i).k) (stN E O S un l) = ⟨1, kp, 0⟩ := ⟨kz, (ask_new (un := un) hI2 hq hs hh).trans (by rw [hact])⟩
  have hep : ep < 4294967296 := by have := hI2.ep; omega
  have hEb : E < 4294967296 := by have := hq.e2; omega
  have hOb : O < 4294967296 := by have := hq.o2; omega
  have SM1 : Hid (SM w0 gs (⟨ep, A, n, c, Y, Da, nd, dc, D, Ta, nt, tc, U, Oa, no, oc, Ov⟩ : St) ((w.alloc (.cells #[.int .u32 (e : Int), .int .u32 (od : Int), .int .i64 st, .bool un, .slice Ad l.length cd, .bool true] 77)).alloc (.cells #[.int .i64 7, .int .u32 (1 + (e : Int) % 6), .int .u32 0, .int .u64 0, .int .u64 0, .int .u32 (1 + (od : Int) % 4), .int .i64 (wrap64 ((IntKind.u64.wrap st).tmod 3)), .bool un, .int .i64 0, .slice none 0 0, .slice Ad l.length cd] 29))) := Lib.hid ((hM.alloc _).alloc _)
  have LS1 : Hid (Lies ((w.alloc (.cells #[.int .u32 (e : Int), .int .u32 (od : Int), .int .i64 st, .bool un, .slice Ad l.length cd, .bool true] 77)).alloc (.cells #[.int .i64 7, .int .u32 (1 + (e : Int) % 6), .int .u32 0, .int .u64 0, .int .u64 0, .int .u32 (1 + (od : Int) % 4), .int .i64 (wrap64 ((IntKind.u64.wrap st).tmod 3)), .bool un, .int .i64 0, .slice none 0 0, .slice Ad l.length cd] 29)) gs 62 #[.int .u32 (ep : Int), .slice A n c, .slice Da nd dc, .slice Ta nt tc, .slice Oa no oc, .bool false]) := Lib.hid SM1.out.box
  have LC1 : Hid (Lies ((w.alloc (.cells #[.int .u32 (e : Int), .int .u32 (od : Int), .int .i64 st, .bool un, .slice Ad l.length cd, .bool true] 77)).alloc (.cells #[.int .i64 7, .int .u32 (1 + (e : Int) % 6), .int .u32 0, .int .u64 0, .int .u64 0, .int .u32 (1 + (od : Int) % 4), .int .i64 (wrap64 ((IntKind.u64.wrap st).tmod 3)), .bool un, .int .i64 0, .slice none 0 0, .slice Ad l.length cd] 29)) w.heap.size 77 #[.int .u32 (e : Int), .int .u32 (od : Int), .int .i64 st, .bool un, .slice Ad l.length cd, .bool true]) := Lib.hid ((Lies.made w 77 #[.int .u32 (e : Int), .int .u32 (od : Int), .int .i64 st, .bool un, .slice Ad l.length cd, .bool true]).alloc _)
  have LN1 : Hid (Lies ((w.alloc (.cells #[.int .u32 (e : Int), .int .u32 (od : Int), .int .i64 st, .bool un, .slice Ad l.length cd, .bool true] 77)).alloc (.cells #[.int .i64 7, .int .u32 (1 + (e : Int) % 6), .int .u32 0, .int .u64 0, .int .u64 0, .int .u32 (1 + (od : Int) % 4), .int .i64 (wrap64 ((IntKind.u64.wrap st).tmod 3)), .bool un, .int .i64 0, .slice none 0 0, .slice Ad l.length cd] 29)) (w.heap.size + 1) 29 #[.int .i64 7, .int .u32 (1 + (e : Int) % 6), .int .u32 0, .int .u64 0, .int .u64 0, .int .u32 (1 + (od : Int) % 4), .int .i64 (wrap64 ((IntKind.u64.wrap st).tmod 3)), .bool un, .int .i64 0, .slice none 0 0, .slice Ad l.length cd]) := Lib.hid (Lies.made2 w (.cells #[.int .u32 (e : Int), .int .u32 (od : Int), .int .i64 st, .bool un, .slice Ad l.length cd, .bool true] 77) 29 #[.int .i64 7, .int .u32 (1 + (e : Int) % 6), .int .u32 0, .int .u64 0, .int .u64 0, .int .u32 (1 + (od : Int) % 4), .int .i64 (wrap64 ((IntKind.u64.wrap st).tmod 3)), .bool un, .int .i64 0, .slice none 0 0, .slice Ad l.length cd])
  have HF1 : Hid (FV ((w.alloc (.cells #[.int .u32 (e : Int), .int .u32 (od : Int), .int .i64 st, .bool un, .slice Ad l.length cd, .bool true] 77)).alloc (.cells #[.int .i64 7, .int .u32 (1 + (e : Int) % 6), .int .u32 0, .int .u64 0, .int .u64 0, .int .u32 (1 + (od : Int) % 4), .int .i64 (wrap64 ((IntKind.u64.wrap st).tmod 3)), .bool un, .int .i64 0, .slice none 0 0, .slice Ad l.length cd] 29)) A n c (fun i => (Y i).k)) := Lib.hid SM1.out.fv
  have HN1 : Hid (EntV ((w.alloc (.cells #[.int .u32 (e : Int), .int .u32 (od : Int), .int .i64 st, .bool un, .slice Ad l.length cd, .bool true] 77)).alloc (.cells #[.int .i64 7, .int .u32 (1 + (e : Int) % 6), .int .u32 0, .int .u64 0, .int .u64 0, .int .u32 (1 + (od : Int) % 4), .int .i64 (wrap64 ((IntKind.u64.wrap st).tmod 3)), .bool un, .int .i64 0, .slice none 0 0, .slice Ad l.length cd] 29)) (stN E O S un l) none Ad 0 cd) := Lib.hid (entV_st (hB.below (by rw [hM.hg]; exact SM1.out.bel)) hc hcm hA hEb hOb hq.s64)
  have HGN := Lib.hid (show gs < w.heap.size from hM.lt)
  obtain ⟨m0, m1, m2, m3, m4, m5⟩ := LS1.out.cells6
  obtain ⟨o0, o1, o2, o3, o4, o5⟩ := LC1.out.cells6
  have HE := Lib.hid hE
  have HO := Lib.hid hO
  have HS := Lib.hid hS
  have HQ := Lib.hid hq
  have HI := Lib.hid hI2
  have HASK := Lib.hid hask
  have HNN := Lib.hid (And.intro hn hb1)
  have H64 := Lib.hid hq.s64
  have HEP := Lib.hid hep
  have HNO := Lib.hid (no_over hI2 hq hh hact)
  have hmay : mayB (actN n (fun i => (Y i).k) (stN E O S un l)) 1 = true := by rw [hact]; decide
  have KE0 := Lib.hid (keep_new hI2 hq hs hh hn 1 [nt] (by simp) hmay)
  have HIK := Lib.hid (hI2.keep hq hs hh hn 1 [nt] (by simp) hmay true (by rw [hact]; simp) ⟨O, S, un, l, 0, []⟩ ⟨rfl, rfl, rfl⟩)
  have HFN := Lib.hid (find_new hI2 hh HIK.out.ok)
  have HNT := Lib.hid (show nt < 256 by have := hb1.1; omega)
  have HNS := Lib.hid hs
  have HON := Lib.hid hOb
  have HNW := Lib.hid (fun W (hb : Below gs w0 W) => entV_st (un := un) (hB.below (by rw [hM.hg]; exact hb)) hc hcm hA hEb hOb hq.s64)
  clear hE hO hS hq hI hI2 hM hB hc hcm hA hask hep hEb hOb hn hb1
  go_enter Try.func51, Try.ntmps51
  go_wp2_with fail
  clear m0 m1 m2 m3 m4 m5 o0 o1 o2 o3 o4 o5
  obtain ⟨x1, hx1⟩ : ∃ z, z = ((w.alloc (.cells #[.int .u32 (e : Int), .int .u32 (od : Int), .int .i64 st, .bool un, .slice Ad l.length cd, .bool true] 77)).alloc (.cells #[.int .i64 7, .int .u32 (1 + (e : Int) % 6), .int .u32 0, .int .u64 0, .int .u64 0, .int .u32 (1 + (od : Int) % 4), .int .i64 (wrap64 ((IntKind.u64.wrap st).tmod 3)), .bool un, .int .i64 0, .slice none 0 0, .slice Ad l.length cd] 29)) := ⟨_, rfl⟩
  rw [← hx1]
  rw [← hx1] at SM1 LS1 LC1 LN1 HF1 HN1
  rw [HE.out, HO.out, HS.out]
  rw [HE.out, HO.out, HS.out] at LN1
  clear hx1
  obtain ⟨gC, hgC⟩ : ∃ g, g = w.heap.size := ⟨_, rfl⟩
  rw [← hgC]
  rw [← hgC] at LC1 LN1 HGN
  clear hgC HE HO HS he ho
  obtain ⟨ld, hld⟩ : ∃ k, l.length = k := ⟨_, rfl⟩
  rw [hld]
  rw [hld] at LC1 LN1
  have HLD := Lib.hid hld
  clear hld
  skip
  have D3 := Lib.hid (fun W (hb : Below x1.heap.size x1 W) => ask_st ep A n c (fun i => (Y i).k) E O S un Ad ld cd l W (HF1.out.below hb) (HN1.out.below hb) HLD.out H64.out HEP.out 1 0 kp (by rw [HASK.out]; rfl) (by rw [HASK.out]) (by rw [HASK.out]; rfl))
  have Z := Lib.hid (Below.refl x1.heap.size x1)
  obtain ⟨u0, u1, -, -, -, -⟩ := LS1.out.cells6
  obtain ⟨v0, v1, v2, v3, v4, v5, v6, v7, v8, v9, v10⟩ := LN1.out.cells11
  have hz1 : x1.heap.size ≠ gs := Nat.ne_of_gt LS1.out.lt
  have hz2 : x1.heap.size ≠ gC + 1 := Nat.ne_of_gt LN1.out.lt
  have GB := Lib.hid (show gs + 1 ≤ x1.heap.size from LS1.out.lt)
  have GB2 : Hid (gs + 1 ≤ (x1.alloc (.cells #[.int .u32 0, .int .i64 0, .bool false, .slice none 0 0, .int .i64 0, .slice none 0 0] 34)).heap.size) := Lib.hid (Nat.le_trans GB.out (by simp))
  go_cut [6, 7, 8] (fun s6 s7 s8 W => s6 = .int .i64 1 ∧ s8 = .int .i64 0 ∧ ∃ g bA bd bB be, s7 = .pointer (some ⟨g, 0, none⟩) ∧ Lies W g 34 #[.int .u32 (kp.o : Int), .int .i64 kp.s, .bool kp.u, .slice bA kp.a.length bd, .int .i64 kp.c, .slice bB kp.r.length be] ∧ Own W (gs + 1) (.slice bA kp.a.length bd) kp.a ∧ Own W (gs + 1) (.slice bB kp.r.length be) kp.r ∧ x1.heap.size ≤ g ∧ Below x1.heap.size x1 W)
  case first =>
    as_aux_lemma =>
      go_region_held3 (fun W => W.cell? ⟨gs, 0, none⟩ = some (.int .u32 (ep : Int)) ∧ W.cell? ⟨gs, 1, none⟩ = some (.slice A n c) ∧ W.cell? ⟨gC + 1, 0, none⟩ = some (.int .i64 7) ∧ W.cell? ⟨gC + 1, 1, none⟩ = some (.int .u32 (E : Int)) ∧ W.cell? ⟨gC + 1, 2, none⟩ = some (.int .u32 0) ∧ W.cell? ⟨gC + 1, 3, none⟩ = some (.int .u64 0) ∧ W.cell? ⟨gC + 1, 4, none⟩ = some (.int .u64 0) ∧ W.cell? ⟨gC + 1, 5, none⟩ = some (.int .u32 (O : Int)) ∧ W.cell? ⟨gC + 1, 6, none⟩ = some (.int .i64 S) ∧ W.cell? ⟨gC + 1, 7, none⟩ = some (.bool un) ∧ W.cell? ⟨gC + 1, 8, none⟩ = some (.int .i64 0) ∧ W.cell? ⟨gC + 1, 9, none⟩ = some (.slice none 0 0) ∧ W.cell? ⟨gC + 1, 10, none⟩ = some (.slice Ad ld cd)) (first | (with_reducible exact ⟨u0, u1, v0, v1, v2, v3, v4, v5, v6, v7, v8, v9, v10⟩) | go_keep)
        (first
        | (go_at_call 14; (with_reducible refine (D3.out x1.drew Z.out.drew).mono ?_); (rintro x wb ⟨bA, bd, bB, be, rfl, oa, ob, hb⟩); (have O1 := Lib.hid (oa.mono GB.out)); (have O2 := Lib.hid (ob.mono GB.out)); (have Z := Lib.hid (Z.out.drew.trans (hb.mono Z.out.size))); (clear u0 u1 v0 v1 v2 v3 v4 v5 v6 v7 v8 v9 v10); (obtain ⟨u0, u1, -, -, -, -⟩ := (Lies.below LS1.out Z.out (Lies.lt LS1.out)).cells6); (obtain ⟨v0, v1, v2, v3, v4, v5, v6, v7, v8, v9, v10⟩ := (Lies.below LN1.out Z.out (Lies.lt LN1.out)).cells11); (have hy1 : wb.heap.size ≠ gs := Nat.ne_of_gt (Nat.lt_of_lt_of_le LS1.out.lt Z.out.size)); (have hy2 : wb.heap.size ≠ gC + 1 := Nat.ne_of_gt (Nat.lt_of_lt_of_le LN1.out.lt Z.out.size)); (clear oa ob hb))
        | (go_at_call 14; (with_reducible refine (D3.out (x1.alloc (.cells #[.int .u32 0, .int .i64 0, .bool false, .slice none 0 0, .int .i64 0, .slice none 0 0] 34)).drew (Z.out.alloc Z.out.size (.cells #[.int .u32 0, .int .i64 0, .bool false, .slice none 0 0, .int .i64 0, .slice none 0 0] 34)).drew).mono ?_); (rintro x wb ⟨bA, bd, bB, be, rfl, oa, ob, hb⟩); (have O1 := Lib.hid (oa.mono GB2.out)); (have O2 := Lib.hid (ob.mono GB2.out)); (have LZ2 := Lib.hid (Lies.below (Lies.drew (Lies.made x1 34 #[.int .u32 0, .int .i64 0, .bool false, .slice none 0 0, .int .i64 0, .slice none 0 0])) hb (Lies.lt (Lies.made x1 34 #[.int .u32 0, .int .i64 0, .bool false, .slice none 0 0, .int .i64 0, .slice none 0 0])))); (have GZ := Lib.hid (Nat.le_refl x1.heap.size)); (obtain ⟨zc0, zc1, zc2, zc3, zc4, zc5⟩ := LZ2.out.cells6); (obtain ⟨zf0, zf1, zf2, zf3, zf4, zf5⟩ := LZ2.out.free6); (have Z := Lib.hid ((Z.out.alloc Z.out.size (.cells #[.int .u32 0, .int .i64 0, .bool false, .slice none 0 0, .int .i64 0, .slice none 0 0] 34)).drew.trans (hb.mono (Z.out.alloc Z.out.size (.cells #[.int .u32 0, .int .i64 0, .bool false, .slice none 0 0, .int .i64 0, .slice none 0 0] 34)).size))); (clear u0 u1 v0 v1 v2 v3 v4 v5 v6 v7 v8 v9 v10); (obtain ⟨u0, u1, -, -, -, -⟩ := (Lies.below LS1.out Z.out (Lies.lt LS1.out)).cells6); (obtain ⟨v0, v1, v2, v3, v4, v5, v6, v7, v8, v9, v10⟩ := (Lies.below LN1.out Z.out (Lies.lt LN1.out)).cells11); (have hy1 : wb.heap.size ≠ gs := Nat.ne_of_gt (Nat.lt_of_lt_of_le LS1.out.lt Z.out.size)); (have hy2 : wb.heap.size ≠ gC + 1 := Nat.ne_of_gt (Nat.lt_of_lt_of_le LN1.out.lt Z.out.size)); (clear oa ob hb)))
      all_goals
        go_wp2_with fail
        go_meet
        first
        | (with_reducible exact ⟨rfl, rfl, _, _, _, _, _, rfl, (Lies.put6 LZ2.out _ _ _ _ _ _), (Own.put6 O1.out LZ2.out (by decide) _ _ _ _ _ _), (Own.put6 O2.out LZ2.out (by decide) _ _ _ _ _ _), GZ.out, (below_put6 Z.out GZ.out _ _ _ _ _ _)⟩)
        | (with_reducible exact ⟨rfl, rfl, _, _, _, _, _, rfl, (Lies.made wb 34 #[.int .u32 (kp.o : Int), .int .i64 kp.s, .bool kp.u, .slice bA kp.a.length bd, .int .i64 kp.c, .slice bB kp.r.length be]), (Own.alloc O1.out _), (Own.alloc O2.out _), Z.out.size, (Z.out.alloc Z.out.size (.cells #[.int .u32 (kp.o : Int), .int .i64 kp.s, .bool kp.u, .slice bA kp.a.length bd, .int .i64 kp.c, .slice bB kp.r.length be] 34))⟩)
  case rest =>
    obtain ⟨rfl, rfl, gK, bA, bd, bB, be, rfl, hLK, hO1, hO2, hgK, hBy⟩ := hcut
    generalize wc = x2 at *
    have SM2 := Lib.hid (SM1.out.below hBy)
    have LS2 : Hid (Lies x2 gs 62 #[.int .u32 (ep : Int), .slice A n c, .slice Da nd dc, .slice Ta nt tc, .slice Oa no oc, .bool false]) := Lib.hid SM2.out.box
    have LC2 := Lib.hid (LC1.out.below hBy LC1.out.lt)
    have LN2 := Lib.hid (LN1.out.below hBy LN1.out.lt)
    have HF2 : Hid (FV x2 A n c (fun i => (Y i).k)) := Lib.hid (HF1.out.below hBy)
    have HN2 := Lib.hid (HN1.out.below hBy)
    have LK := Lib.hid hLK
    have OK1 := Lib.hid hO1
    have OK2 := Lib.hid hO2
    have HGK := Lib.hid hgK
    have B12 := Lib.hid hBy
    clear hLK hO1 hO2 hgK hBy D3 u0 u1 v0 v1 v2 v3 v4 v5 v6 v7 v8 v9 v10 hz1 hz2 GB GB2 Z LS1 LC1 LN1 HF1 HN1
    obtain ⟨m0, m1, m2, m3, m4, m5⟩ := LS2.out.cells6
    obtain ⟨f0, f1, f2, f3, f4, f5⟩ := LS2.out.free6
    obtain ⟨v0, v1, v2, v3, v4, v5, v6, v7, v8, v9, v10⟩ := LN2.out.cells11
    obtain ⟨o0, o1, o2, o3, o4, o5⟩ := LC2.out.cells6
    go_upto_block 0 with fail
    go_cut [9] (fun s9 W => s9 = .int .i64 1 ∧ ∃ g4 cap4, SM w0 gs (⟨ep, A, n, c, Y, (some ⟨g4, 0, none⟩), (nd + 1), cap4, (snoc nd D ⟨⟨O, S, un, l, 0, []⟩, .slice Ad ld cd, .slice none 0 0⟩), Ta, nt, tc, U, Oa, no, oc, Ov⟩ : St) W ∧ Lies W (gC + 1) 29 #[.int .i64 7, .int .u32 (E : Int), .int .u32 0, .int .u64 0, .int .u64 0, .int .u32 (O : Int), .int .i64 S, .bool un, .int .i64 0, .slice none 0 0, .slice Ad ld cd])
    case first =>
      go_wp2_with fail
      clear m0 m1 m2 m3 m4 m5 f0 f1 f2 f3 f4 f5 v0 v1 v2 v3 v4 v5 v6 v7 v8 v9 v10 o0 o1 o2 o3 o4 o5
      go_loopw [10] (OvR x2 no) (fun i _ => no - (intOf i).toNat)
      case atStart => exact ⟨0, 0, by omega, rfl, rfl⟩
      case round =>
        obtain ⟨j, k, hj, rfl, rfl⟩ := hrel
        have hnn : no < 200 := HNN.out.2.2.2
        obtain ⟨x3, hx3⟩ : ∃ z, z = x2.drewN k := ⟨_, rfl⟩
        have SM3 : Hid (SM w0 gs (⟨ep, A, n, c, Y, Da, nd, dc, D, Ta, nt, tc, U, Oa, no, oc, Ov⟩ : St) x3) := Lib.hid (by rw [hx3]; exact SM2.out.drewN k)
        have LN3 : Hid (Lies x3 (gC + 1) 29 #[.int .i64 7, .int .u32 (E : Int), .int .u32 0, .int .u64 0, .int .u64 0, .int .u32 (O : Int), .int .i64 S, .bool un, .int .i64 0, .slice none 0 0, .slice Ad ld cd]) := Lib.hid (by rw [hx3]; exact LN2.out)
        have LC3 : Hid (Lies x3 gC 77 #[.int .u32 (e : Int), .int .u32 (od : Int), .int .i64 st, .bool un, .slice Ad ld cd, .bool true]) := Lib.hid (by rw [hx3]; exact LC2.out)
        have HF3 : Hid (FV x3 A n c (fun i => (Y i).k)) := Lib.hid SM3.out.fv
        have HN3 : Hid (EntV x3 (stN E O S un l) none Ad 0 cd) := Lib.hid (by rw [hx3]; exact ⟨HN2.out.k, HN2.out.kc, HN2.out.km, HN2.out.ka, HN2.out.d, HN2.out.dc, HN2.out.dm, HN2.out.da, HN2.out.b⟩)
        have HX3 := Lib.hid hx3
        rw [← hx3]
        clear hx3
        have LS3 : Hid (Lies x3 gs 62 #[.int .u32 (ep : Int), .slice A n c, .slice Da nd dc, .slice Ta nt tc, .slice Oa no oc, .bool false]) := Lib.hid SM3.out.box
        obtain ⟨m0, m1, m2, m3, m4, m5⟩ := LS3.out.cells6
        obtain ⟨f0, f1, f2, f3, f4, f5⟩ := LS3.out.free6
        obtain ⟨v0, v1, v2, v3, v4, v5, v6, v7, v8, v9, v10⟩ := LN3.out.cells11
        obtain ⟨o0, o1, o2, o3, o4, o5⟩ := LC3.out.cells6
        by_cases hlt : j < no
        · have HNJ := Lib.hid (HNO.out j hlt)
          obtain ⟨A', c', hv, -, -, -, hat⟩ := SM3.out.o.row.slice
          injection hv with z1 z2 z3
          dsimp only at z1 z3 hat
          subst z1 z3
          obtain ⟨b, off, rfl, -, -, -⟩ := hat (by omega)
          clear hat z2
          have hi : (j : Int) < (no : Int) := by omega
          obtain ⟨⟨q0, q1, -, -, -, -⟩, -, -, -, -, -, -⟩ := SM3.out.o.row.at j hlt
          dsimp only at q0 q1
          obtain ⟨xo, hxo⟩ : ∃ q, (Ov j).k.o = q := ⟨_, rfl⟩
          obtain ⟨xs, hxs⟩ : ∃ q, (Ov j).k.s = q := ⟨_, rfl⟩
          rw [hxo] at q0
          rw [hxs] at q1
          skip
          have HNJ2 : Hid (¬ (xo = O ∧ xs = S)) := Lib.hid (by have h := HNJ.out; rw [← hxo, ← hxs]; exact h)
          clear hxo hxs HNJ
          have HS18 := Lib.hid (and4 (And.intro m4 m5) (And.intro v5 v6) (And.intro q0 q1))
          go_wp2_with fail
          clear m0 m1 m2 m3 m4 m5 v0 v1 v2 v3 v4 v5 v6 v7 v8 v9 v10 o0 o1 o2 o3 o4 o5 q0 q1
          by_cases ho : xo = O
          · as_aux_lemma =>
              have e1 : ((xo : Int) == (O : Int)) = true := by simp [ho]
              have e2 : (xs == S) = false := by rw [beq_eq_false_iff_ne]; exact fun h => HNJ2.out ⟨ho, h⟩
              clear ho
              refine wp_region_noPanic ?_
              refine wp_region_held_drew (S := fun W => W.cell? ⟨gs, 4, none⟩ = some (.slice (some ⟨b, off, none⟩) no oc) ∧ W.cell? ⟨gs, 5, none⟩ = some (.bool false) ∧ W.cell? ⟨gC + 1, 5, none⟩ = some (.int .u32 (O : Int)) ∧ W.cell? ⟨gC + 1, 6, none⟩ = some (.int .i64 S) ∧ W.cell? ⟨b, off + j * 6, none⟩ = some (.int .u32 (xo : Int)) ∧ W.cell? ⟨b, off + j * 6 + 1, none⟩ = some (.int .i64 xs)) (by kernel_rfl) HS18.out (fun hH0 => ?_)
              refine any_take 0 110 ?vc4x0 rfl rfl (by kernel_rfl) (by kernel_rfl) (by kernel_rfl) (fun _ _ _ h => h) (by rfl) ?hyc4x0 hH0 ?restc4x0
              case hyc4x0 => ((intro W hSw); obtain ⟨s0, s1, s2, s3, s4, s5⟩ := hSw; go_simp; (try with_reducible rfl))
              try simp only [Act.put, List.setIfInBounds_toArray, List.set_cons_zero, List.set_cons_succ]
              refine any_take 1 111 ?vc4x1 rfl rfl (by kernel_rfl) (by kernel_rfl) (by kernel_rfl) (fun _ _ _ h => h) (by rfl) ?hyc4x1 hH0 ?restc4x1
              case hyc4x1 => ((intro W hSw); obtain ⟨s0, s1, s2, s3, s4, s5⟩ := hSw; go_simp; (try with_reducible rfl))
              try simp only [Act.put, List.setIfInBounds_toArray, List.set_cons_zero, List.set_cons_succ]
              refine any_take 2 112 ?vc4x2 rfl rfl (by kernel_rfl) (by kernel_rfl) (by kernel_rfl) (fun _ _ _ h => h) (by rfl) ?hyc4x2 hH0 ?restc4x2
              case hyc4x2 => ((intro W hSw); obtain ⟨s0, s1, s2, s3, s4, s5⟩ := hSw; go_simp; (try with_reducible rfl))
              try simp only [Act.put, List.setIfInBounds_toArray, List.set_cons_zero, List.set_cons_succ]
              refine any_take 3 113 ?vc4x3 rfl rfl (by kernel_rfl) (by kernel_rfl) (by kernel_rfl) (fun _ _ _ h => h) (by rfl) ?hyc4x3 hH0 ?restc4x3
              case hyc4x3 => ((intro W hSw); obtain ⟨s0, s1, s2, s3, s4, s5⟩ := hSw; go_simp; (try with_reducible rfl))
              try simp only [Act.put, List.setIfInBounds_toArray, List.set_cons_zero, List.set_cons_succ]
              refine any_take 4 114 ?vc4x4 rfl rfl (by kernel_rfl) (by kernel_rfl) (by kernel_rfl) (fun _ _ _ h => h) (by rfl) ?hyc4x4 hH0 ?restc4x4
              case hyc4x4 => ((intro W hSw); obtain ⟨s0, s1, s2, s3, s4, s5⟩ := hSw; go_simp; (try with_reducible rfl))
              try simp only [Act.put, List.setIfInBounds_toArray, List.set_cons_zero, List.set_cons_succ]
              refine any_take 5 115 ?vc4x5 rfl rfl (by kernel_rfl) (by kernel_rfl) (by kernel_rfl) (fun _ _ _ h => h) (by rfl) ?hyc4x5 hH0 ?restc4x5
              case hyc4x5 => ((intro W hSw); obtain ⟨s0, s1, s2, s3, s4, s5⟩ := hSw; go_simp; (try with_reducible rfl))
              try simp only [Act.put, List.setIfInBounds_toArray, List.set_cons_zero, List.set_cons_succ]
              refine any_take 6 116 ?vc4x6 rfl rfl (by kernel_rfl) (by kernel_rfl) (by kernel_rfl) (fun _ _ _ h => h) (by rfl) ?hyc4x6 hH0 ?restc4x6
              case hyc4x6 => ((intro W hSw); obtain ⟨s0, s1, s2, s3, s4, s5⟩ := hSw; go_simp; (try with_reducible rfl))
              try simp only [Act.put, List.setIfInBounds_toArray, List.set_cons_zero, List.set_cons_succ]
              refine any_take 7 117 ?vc4x7 rfl rfl (by kernel_rfl) (by kernel_rfl) (by kernel_rfl) (fun _ _ _ h => h) (by rfl) ?hyc4x7 hH0 ?restc4x7
              case hyc4x7 => ((intro W hSw); obtain ⟨s0, s1, s2, s3, s4, s5⟩ := hSw; go_simp; (try with_reducible rfl))
              try simp only [Act.put, List.setIfInBounds_toArray, List.set_cons_zero, List.set_cons_succ]
              refine any_take 8 118 ?vc4x8 rfl rfl (by kernel_rfl) (by kernel_rfl) (by kernel_rfl) (fun _ _ _ h => h) (by rfl) ?hyc4x8 hH0 ?restc4x8
              case hyc4x8 => ((intro W hSw); obtain ⟨s0, s1, s2, s3, s4, s5⟩ := hSw; go_simp; (try with_reducible rfl))
              try simp only [Act.put, List.setIfInBounds_toArray, List.set_cons_zero, List.set_cons_succ]
              refine any_take 9 119 ?vc4x9 rfl rfl (by kernel_rfl) (by kernel_rfl) (by kernel_rfl) (fun _ _ _ h => h) (by rfl) ?hyc4x9 hH0 ?restc4x9
              case hyc4x9 => ((intro W hSw); obtain ⟨s0, s1, s2, s3, s4, s5⟩ := hSw; go_simp; (try with_reducible rfl))
              try simp only [Act.put, List.setIfInBounds_toArray, List.set_cons_zero, List.set_cons_succ]
              refine any_take 10 120 ?vc4x10 rfl rfl (by kernel_rfl) (by kernel_rfl) (by kernel_rfl) (fun _ _ _ h => h) (by rfl) ?hyc4x10 hH0 ?restc4x10
              case hyc4x10 => ((intro W hSw); obtain ⟨s0, s1, s2, s3, s4, s5⟩ := hSw; go_simp; (try with_reducible rfl))
              try simp only [Act.put, List.setIfInBounds_toArray, List.set_cons_zero, List.set_cons_succ]
              refine any_take 11 121 ?vc4x11 rfl rfl (by kernel_rfl) (by kernel_rfl) (by kernel_rfl) (fun _ _ _ h => h) (by rfl) ?hyc4x11 hH0 ?restc4x11
              case hyc4x11 => ((intro W hSw); obtain ⟨s0, s1, s2, s3, s4, s5⟩ := hSw; go_simp; (try with_reducible rfl))
              try simp only [Act.put, List.setIfInBounds_toArray, List.set_cons_zero, List.set_cons_succ]
              refine any_take 12 122 ?vc4x12 rfl rfl (by kernel_rfl) (by kernel_rfl) (by kernel_rfl) (fun _ _ _ h => h) (by rfl) ?hyc4x12 hH0 ?restc4x12
              case hyc4x12 => ((intro W hSw); obtain ⟨s0, s1, s2, s3, s4, s5⟩ := hSw; go_simp; (try with_reducible rfl))
              try simp only [Act.put, List.setIfInBounds_toArray, List.set_cons_zero, List.set_cons_succ]
              refine any_take 13 123 ?vc4x13 rfl rfl (by kernel_rfl) (by kernel_rfl) (by kernel_rfl) (fun _ _ _ h => h) (by rfl) ?hyc4x13 hH0 ?restc4x13
              case hyc4x13 => ((intro W hSw); obtain ⟨s0, s1, s2, s3, s4, s5⟩ := hSw; go_simp; (try with_reducible rfl))
              try simp only [Act.put, List.setIfInBounds_toArray, List.set_cons_zero, List.set_cons_succ]
              refine any_take 14 124 ?vc4x14 rfl rfl (by kernel_rfl) (by kernel_rfl) (by kernel_rfl) (fun _ _ _ h => h) (by rfl) ?hyc4x14 hH0 ?restc4x14
              case hyc4x14 => ((intro W hSw); obtain ⟨s0, s1, s2, s3, s4, s5⟩ := hSw; go_simp; (try with_reducible rfl))
              try simp only [Act.put, List.setIfInBounds_toArray, List.set_cons_zero, List.set_cons_succ]
              refine any_take 15 125 ?vc4x15 rfl rfl (by kernel_rfl) (by kernel_rfl) (by kernel_rfl) (fun _ _ _ h => h) (by rfl) ?hyc4x15 hH0 ?restc4x15
              case hyc4x15 => ((intro W hSw); obtain ⟨s0, s1, s2, s3, s4, s5⟩ := hSw; go_simp; (try with_reducible rfl))
              try simp only [Act.put, List.setIfInBounds_toArray, List.set_cons_zero, List.set_cons_succ]
              refine any_take 16 126 ?vc4x16 rfl rfl (by kernel_rfl) (by kernel_rfl) (by kernel_rfl) (fun _ _ _ h => h) (by rfl) ?hyc4x16 hH0 ?restc4x16
              case hyc4x16 => ((intro W hSw); obtain ⟨s0, s1, s2, s3, s4, s5⟩ := hSw; go_simp; (try with_reducible rfl))
              try simp only [Act.put, List.setIfInBounds_toArray, List.set_cons_zero, List.set_cons_succ]
              refine any_take 17 127 ?vc4x17 rfl rfl (by kernel_rfl) (by kernel_rfl) (by kernel_rfl) (fun _ _ _ h => h) (by rfl) ?hyc4x17 hH0 ?restc4x17
              case hyc4x17 => ((intro W hSw); obtain ⟨s0, s1, s2, s3, s4, s5⟩ := hSw; go_simp; (try with_reducible rfl))
              try simp only [Act.put, List.setIfInBounds_toArray, List.set_cons_zero, List.set_cons_succ]
              refine any_take 18 128 ?vc4x18 rfl rfl (by kernel_rfl) (by kernel_rfl) (by kernel_rfl) (fun _ _ _ h => h) (by rfl) ?hyc4x18 hH0 ?restc4x18
              case hyc4x18 => ((intro W hSw); obtain ⟨s0, s1, s2, s3, s4, s5⟩ := hSw; go_simp; (try with_reducible rfl))
              try simp only [Act.put, List.setIfInBounds_toArray, List.set_cons_zero, List.set_cons_succ]
              refine any_take 19 129 ?vc4x19 rfl rfl (by kernel_rfl) (by kernel_rfl) (by kernel_rfl) (fun _ _ _ h => h) (by rfl) ?hyc4x19 hH0 ?restc4x19
              case hyc4x19 => ((intro W hSw); obtain ⟨s0, s1, s2, s3, s4, s5⟩ := hSw; go_simp; (try with_reducible rfl))
              try simp only [Act.put, List.setIfInBounds_toArray, List.set_cons_zero, List.set_cons_succ]
              refine any_take 20 130 ?vc4x20 rfl rfl (by kernel_rfl) (by kernel_rfl) (by kernel_rfl) (fun _ _ _ h => h) (by rfl) ?hyc4x20 hH0 ?restc4x20
              case hyc4x20 => ((intro W hSw); obtain ⟨s0, s1, s2, s3, s4, s5⟩ := hSw; go_simp; (try with_reducible rfl))
              try simp only [Act.put, List.setIfInBounds_toArray, List.set_cons_zero, List.set_cons_succ]
              refine any_take 21 131 ?vc4x21 rfl rfl (by kernel_rfl) (by kernel_rfl) (by kernel_rfl) (fun _ _ _ h => h) (by rfl) ?hyc4x21 hH0 ?restc4x21
              case hyc4x21 => ((intro W hSw); obtain ⟨s0, s1, s2, s3, s4, s5⟩ := hSw; go_simp; (try with_reducible rfl))
              try simp only [Act.put, List.setIfInBounds_toArray, List.set_cons_zero, List.set_cons_succ]
              refine any_take 22 132 ?vc4x22 rfl rfl (by kernel_rfl) (by kernel_rfl) (by kernel_rfl) (fun _ _ _ h => h) (by rfl) ?hyc4x22 hH0 ?restc4x22
              case hyc4x22 => ((intro W hSw); obtain ⟨s0, s1, s2, s3, s4, s5⟩ := hSw; go_simp; (try with_reducible rfl))
              try simp only [Act.put, List.setIfInBounds_toArray, List.set_cons_zero, List.set_cons_succ]
              refine any_take 23 133 ?vc4x23 rfl rfl (by kernel_rfl) (by kernel_rfl) (by kernel_rfl) (fun _ _ _ h => h) (by rfl) ?hyc4x23 hH0 ?restc4x23
              case hyc4x23 => ((intro W hSw); obtain ⟨s0, s1, s2, s3, s4, s5⟩ := hSw; go_simp; (try with_reducible rfl))
              try simp only [Act.put, List.setIfInBounds_toArray, List.set_cons_zero, List.set_cons_succ]
              refine any_take 24 134 ?vc4x24 rfl rfl (by kernel_rfl) (by kernel_rfl) (by kernel_rfl) (fun _ _ _ h => h) (by rfl) ?hyc4x24 hH0 ?restc4x24
              case hyc4x24 => ((intro W hSw); obtain ⟨s0, s1, s2, s3, s4, s5⟩ := hSw; go_simp; (try with_reducible rfl))
              try simp only [Act.put, List.setIfInBounds_toArray, List.set_cons_zero, List.set_cons_succ]
              refine any_take 25 135 ?vc4x25 rfl rfl (by kernel_rfl) (by kernel_rfl) (by kernel_rfl) (fun _ _ _ h => h) (by rfl) ?hyc4x25 hH0 ?restc4x25
              case hyc4x25 => ((intro W hSw); obtain ⟨s0, s1, s2, s3, s4, s5⟩ := hSw; go_simp; (try with_reducible rfl))
              try simp only [Act.put, List.setIfInBounds_toArray, List.set_cons_zero, List.set_cons_succ]
              refine any_take 26 136 ?vc4x26 rfl rfl (by kernel_rfl) (by kernel_rfl) (by kernel_rfl) (fun _ _ _ h => h) (by rfl) ?hyc4x26 hH0 ?restc4x26
              case hyc4x26 => ((intro W hSw); obtain ⟨s0, s1, s2, s3, s4, s5⟩ := hSw; go_simp; (try with_reducible rfl))
              try simp only [Act.put, List.setIfInBounds_toArray, List.set_cons_zero, List.set_cons_succ]
              refine any_take 27 137 ?vc4x27 rfl rfl (by kernel_rfl) (by kernel_rfl) (by kernel_rfl) (fun _ _ _ h => h) (by rfl) ?hyc4x27 hH0 ?restc4x27
              case hyc4x27 => ((intro W hSw); obtain ⟨s0, s1, s2, s3, s4, s5⟩ := hSw; go_simp; (try with_reducible rfl))
              try simp only [Act.put, List.setIfInBounds_toArray, List.set_cons_zero, List.set_cons_succ]
              refine any_take 28 138 ?vc4x28 rfl rfl (by kernel_rfl) (by kernel_rfl) (by kernel_rfl) (fun _ _ _ h => h) (by rfl) ?hyc4x28 hH0 ?restc4x28
              case hyc4x28 => ((intro W hSw); obtain ⟨s0, s1, s2, s3, s4, s5⟩ := hSw; go_simp; (try with_reducible rfl))
              try simp only [Act.put, List.setIfInBounds_toArray, List.set_cons_zero, List.set_cons_succ]
              refine any_take 29 139 ?vc4x29 rfl rfl (by kernel_rfl) (by kernel_rfl) (by kernel_rfl) (fun _ _ _ h => h) (by rfl) ?hyc4x29 hH0 ?restc4x29
              case hyc4x29 => ((intro W hSw); obtain ⟨s0, s1, s2, s3, s4, s5⟩ := hSw; go_simp; (try with_reducible rfl))
              try simp only [Act.put, List.setIfInBounds_toArray, List.set_cons_zero, List.set_cons_succ]
              refine any_take 30 140 ?vc4x30 rfl rfl (by kernel_rfl) (by kernel_rfl) (by kernel_rfl) (fun _ _ _ h => h) (by rfl) ?hyc4x30 hH0 ?restc4x30
              case hyc4x30 => ((intro W hSw); obtain ⟨s0, s1, s2, s3, s4, s5⟩ := hSw; go_simp; (try with_reducible rfl))
              try simp only [Act.put, List.setIfInBounds_toArray, List.set_cons_zero, List.set_cons_succ]
              refine any_take 31 141 ?vc4x31 rfl rfl (by kernel_rfl) (by kernel_rfl) (by kernel_rfl) (fun _ _ _ h => h) (by rfl) ?hyc4x31 hH0 ?restc4x31
              case hyc4x31 => ((intro W hSw); obtain ⟨s0, s1, s2, s3, s4, s5⟩ := hSw; go_simp; (try with_reducible rfl))
              try simp only [Act.put, List.setIfInBounds_toArray, List.set_cons_zero, List.set_cons_succ]
              refine any_take 32 142 ?vc4x32 rfl rfl (by kernel_rfl) (by kernel_rfl) (by kernel_rfl) (fun _ _ _ h => h) (by rfl) ?hyc4x32 hH0 ?restc4x32
              case hyc4x32 => ((intro W hSw); obtain ⟨s0, s1, s2, s3, s4, s5⟩ := hSw; go_simp; (try with_reducible rfl))
              try simp only [Act.put, List.setIfInBounds_toArray, List.set_cons_zero, List.set_cons_succ]
              refine wpAnyH_ready (rs := [33]) (by kernel_rfl) (by simp) ?_
              refine AllReadyH.cons rfl (fun K hK => ?_) AllReadyH.nil
              go_simp
              refine hK.out _ _ (by rw [setCell_same LS3.out rfl]; exact HS18.out) (fun hH4 => ?_)
              clear hK K hH0 hH4
              try simp only [Act.put, List.setIfInBounds_toArray, List.set_cons_zero, List.set_cons_succ]
              refine wpAnyH_done (by kernel_rfl) ?_ _
              refine NoPanic.normal ?_
              rw [setCell_same LS3.out rfl]
              go_wp2
              go_roundw
              case rel => exact ⟨j + 1, k + 1, by omega, by go_num, by rw [HX3.out]; rfl⟩
              case measure => simp [intOf]; omega
          · as_aux_lemma =>
              have e1 : ((xo : Int) == (O : Int)) = false := by rw [beq_eq_false_iff_ne]; omega
              clear ho
              refine wp_region_noPanic ?_
              refine wp_region_held_drew (S := fun W => W.cell? ⟨gs, 4, none⟩ = some (.slice (some ⟨b, off, none⟩) no oc) ∧ W.cell? ⟨gs, 5, none⟩ = some (.bool false) ∧ W.cell? ⟨gC + 1, 5, none⟩ = some (.int .u32 (O : Int)) ∧ W.cell? ⟨gC + 1, 6, none⟩ = some (.int .i64 S) ∧ W.cell? ⟨b, off + j * 6, none⟩ = some (.int .u32 (xo : Int)) ∧ W.cell? ⟨b, off + j * 6 + 1, none⟩ = some (.int .i64 xs)) (by kernel_rfl) HS18.out (fun hH0 => ?_)
              refine any_take 0 110 ?vc5x0 rfl rfl (by kernel_rfl) (by kernel_rfl) (by kernel_rfl) (fun _ _ _ h => h) (by rfl) ?hyc5x0 hH0 ?restc5x0
              case hyc5x0 => ((intro W hSw); obtain ⟨s0, s1, s2, s3, s4, s5⟩ := hSw; go_simp; (try with_reducible rfl))
              try simp only [Act.put, List.setIfInBounds_toArray, List.set_cons_zero, List.set_cons_succ]
              refine any_take 1 111 ?vc5x1 rfl rfl (by kernel_rfl) (by kernel_rfl) (by kernel_rfl) (fun _ _ _ h => h) (by rfl) ?hyc5x1 hH0 ?restc5x1
              case hyc5x1 => ((intro W hSw); obtain ⟨s0, s1, s2, s3, s4, s5⟩ := hSw; go_simp; (try with_reducible rfl))
              try simp only [Act.put, List.setIfInBounds_toArray, List.set_cons_zero, List.set_cons_succ]
              refine any_take 2 112 ?vc5x2 rfl rfl (by kernel_rfl) (by kernel_rfl) (by kernel_rfl) (fun _ _ _ h => h) (by rfl) ?hyc5x2 hH0 ?restc5x2
              case hyc5x2 => ((intro W hSw); obtain ⟨s0, s1, s2, s3, s4, s5⟩ := hSw; go_simp; (try with_reducible rfl))
              try simp only [Act.put, List.setIfInBounds_toArray, List.set_cons_zero, List.set_cons_succ]
              refine any_take 3 113 ?vc5x3 rfl rfl (by kernel_rfl) (by kernel_rfl) (by kernel_rfl) (fun _ _ _ h => h) (by rfl) ?hyc5x3 hH0 ?restc5x3
              case hyc5x3 => ((intro W hSw); obtain ⟨s0, s1, s2, s3, s4, s5⟩ := hSw; go_simp; (try with_reducible rfl))
              try simp only [Act.put, List.setIfInBounds_toArray, List.set_cons_zero, List.set_cons_succ]
              refine any_take 4 114 ?vc5x4 rfl rfl (by kernel_rfl) (by kernel_rfl) (by kernel_rfl) (fun _ _ _ h => h) (by rfl) ?hyc5x4 hH0 ?restc5x4
              case hyc5x4 => ((intro W hSw); obtain ⟨s0, s1, s2, s3, s4, s5⟩ := hSw; go_simp; (try with_reducible rfl))
              try simp only [Act.put, List.setIfInBounds_toArray, List.set_cons_zero, List.set_cons_succ]
              refine any_take 5 115 ?vc5x5 rfl rfl (by kernel_rfl) (by kernel_rfl) (by kernel_rfl) (fun _ _ _ h => h) (by rfl) ?hyc5x5 hH0 ?restc5x5
              case hyc5x5 => ((intro W hSw); obtain ⟨s0, s1, s2, s3, s4, s5⟩ := hSw; go_simp; (try with_reducible rfl))
              try simp only [Act.put, List.setIfInBounds_toArray, List.set_cons_zero, List.set_cons_succ]
              refine any_take 6 116 ?vc5x6 rfl rfl (by kernel_rfl) (by kernel_rfl) (by kernel_rfl) (fun _ _ _ h => h) (by rfl) ?hyc5x6 hH0 ?restc5x6
              case hyc5x6 => ((intro W hSw); obtain ⟨s0, s1, s2, s3, s4, s5⟩ := hSw; go_simp; (try with_reducible rfl))
              try simp only [Act.put, List.setIfInBounds_toArray, List.set_cons_zero, List.set_cons_succ]
              refine any_take 7 117 ?vc5x7 rfl rfl (by kernel_rfl) (by kernel_rfl) (by kernel_rfl) (fun _ _ _ h => h) (by rfl) ?hyc5x7 hH0 ?restc5x7
              case hyc5x7 => ((intro W hSw); obtain ⟨s0, s1, s2, s3, s4, s5⟩ := hSw; go_simp; (try with_reducible rfl))
              try simp only [Act.put, List.setIfInBounds_toArray, List.set_cons_zero, List.set_cons_succ]
              refine any_take 8 118 ?vc5x8 rfl rfl (by kernel_rfl) (by kernel_rfl) (by kernel_rfl) (fun _ _ _ h => h) (by rfl) ?hyc5x8 hH0 ?restc5x8
              case hyc5x8 => ((intro W hSw); obtain ⟨s0, s1, s2, s3, s4, s5⟩ := hSw; go_simp; (try with_reducible rfl))
              try simp only [Act.put, List.setIfInBounds_toArray, List.set_cons_zero, List.set_cons_succ]
              refine any_take 9 119 ?vc5x9 rfl rfl (by kernel_rfl) (by kernel_rfl) (by kernel_rfl) (fun _ _ _ h => h) (by rfl) ?hyc5x9 hH0 ?restc5x9
              case hyc5x9 => ((intro W hSw); obtain ⟨s0, s1, s2, s3, s4, s5⟩ := hSw; go_simp; (try with_reducible rfl))
              try simp only [Act.put, List.setIfInBounds_toArray, List.set_cons_zero, List.set_cons_succ]
              refine any_take 10 120 ?vc5x10 rfl rfl (by kernel_rfl) (by kernel_rfl) (by kernel_rfl) (fun _ _ _ h => h) (by rfl) ?hyc5x10 hH0 ?restc5x10
              case hyc5x10 => ((intro W hSw); obtain ⟨s0, s1, s2, s3, s4, s5⟩ := hSw; go_simp; (try with_reducible rfl))
              try simp only [Act.put, List.setIfInBounds_toArray, List.set_cons_zero, List.set_cons_succ]
              refine any_take 11 121 ?vc5x11 rfl rfl (by kernel_rfl) (by kernel_rfl) (by kernel_rfl) (fun _ _ _ h => h) (by rfl) ?hyc5x11 hH0 ?restc5x11
              case hyc5x11 => ((intro W hSw); obtain ⟨s0, s1, s2, s3, s4, s5⟩ := hSw; go_simp; (try with_reducible rfl))
              try simp only [Act.put, List.setIfInBounds_toArray, List.set_cons_zero, List.set_cons_succ]
              refine any_take 12 122 ?vc5x12 rfl rfl (by kernel_rfl) (by kernel_rfl) (by kernel_rfl) (fun _ _ _ h => h) (by rfl) ?hyc5x12 hH0 ?restc5x12
              case hyc5x12 => ((intro W hSw); obtain ⟨s0, s1, s2, s3, s4, s5⟩ := hSw; go_simp; (try with_reducible rfl))
              try simp only [Act.put, List.setIfInBounds_toArray, List.set_cons_zero, List.set_cons_succ]
              refine any_take 13 123 ?vc5x13 rfl rfl (by kernel_rfl) (by kernel_rfl) (by kernel_rfl) (fun _ _ _ h => h) (by rfl) ?hyc5x13 hH0 ?restc5x13
              case hyc5x13 => ((intro W hSw); obtain ⟨s0, s1, s2, s3, s4, s5⟩ := hSw; go_simp; (try with_reducible rfl))
              try simp only [Act.put, List.setIfInBounds_toArray, List.set_cons_zero, List.set_cons_succ]
              refine any_take 14 124 ?vc5x14 rfl rfl (by kernel_rfl) (by kernel_rfl) (by kernel_rfl) (fun _ _ _ h => h) (by rfl) ?hyc5x14 hH0 ?restc5x14
              case hyc5x14 => ((intro W hSw); obtain ⟨s0, s1, s2, s3, s4, s5⟩ := hSw; go_simp; (try with_reducible rfl))
              try simp only [Act.put, List.setIfInBounds_toArray, List.set_cons_zero, List.set_cons_succ]
              refine any_take 15 125 ?vc5x15 rfl rfl (by kernel_rfl) (by kernel_rfl) (by kernel_rfl) (fun _ _ _ h => h) (by rfl) ?hyc5x15 hH0 ?restc5x15
              case hyc5x15 => ((intro W hSw); obtain ⟨s0, s1, s2, s3, s4, s5⟩ := hSw; go_simp; (try with_reducible rfl))
              try simp only [Act.put, List.setIfInBounds_toArray, List.set_cons_zero, List.set_cons_succ]
              refine any_take 16 126 ?vc5x16 rfl rfl (by kernel_rfl) (by kernel_rfl) (by kernel_rfl) (fun _ _ _ h => h) (by rfl) ?hyc5x16 hH0 ?restc5x16
              case hyc5x16 => ((intro W hSw); obtain ⟨s0, s1, s2, s3, s4, s5⟩ := hSw; go_simp; (try with_reducible rfl))
              try simp only [Act.put, List.setIfInBounds_toArray, List.set_cons_zero, List.set_cons_succ]
              refine any_take 17 127 ?vc5x17 rfl rfl (by kernel_rfl) (by kernel_rfl) (by kernel_rfl) (fun _ _ _ h => h) (by rfl) ?hyc5x17 hH0 ?restc5x17
              case hyc5x17 => ((intro W hSw); obtain ⟨s0, s1, s2, s3, s4, s5⟩ := hSw; go_simp; (try with_reducible rfl))
              try simp only [Act.put, List.setIfInBounds_toArray, List.set_cons_zero, List.set_cons_succ]
              refine any_skip 18 128 rfl rfl (by kernel_rfl) (by kernel_rfl) (by kernel_rfl) (fun _ _ _ h => h) (by rfl) hH0 ?_
              try simp only [Act.put, List.setIfInBounds_toArray, List.set_cons_zero, List.set_cons_succ]
              refine any_skip 19 129 rfl rfl (by kernel_rfl) (by kernel_rfl) (by kernel_rfl) (fun _ _ _ h => h) (by rfl) hH0 ?_
              try simp only [Act.put, List.setIfInBounds_toArray, List.set_cons_zero, List.set_cons_succ]
              refine any_skip 20 130 rfl rfl (by kernel_rfl) (by kernel_rfl) (by kernel_rfl) (fun _ _ _ h => h) (by rfl) hH0 ?_
              try simp only [Act.put, List.setIfInBounds_toArray, List.set_cons_zero, List.set_cons_succ]
              refine any_skip 21 131 rfl rfl (by kernel_rfl) (by kernel_rfl) (by kernel_rfl) (fun _ _ _ h => h) (by rfl) hH0 ?_
              try simp only [Act.put, List.setIfInBounds_toArray, List.set_cons_zero, List.set_cons_succ]
              refine any_skip 22 132 rfl rfl (by kernel_rfl) (by kernel_rfl) (by kernel_rfl) (fun _ _ _ h => h) (by rfl) hH0 ?_
              try simp only [Act.put, List.setIfInBounds_toArray, List.set_cons_zero, List.set_cons_succ]
              refine any_skip 23 133 rfl rfl (by kernel_rfl) (by kernel_rfl) (by kernel_rfl) (fun _ _ _ h => h) (by rfl) hH0 ?_
              try simp only [Act.put, List.setIfInBounds_toArray, List.set_cons_zero, List.set_cons_succ]
              refine any_skip 24 134 rfl rfl (by kernel_rfl) (by kernel_rfl) (by kernel_rfl) (fun _ _ _ h => h) (by rfl) hH0 ?_
              try simp only [Act.put, List.setIfInBounds_toArray, List.set_cons_zero, List.set_cons_succ]
              refine any_skip 25 135 rfl rfl (by kernel_rfl) (by kernel_rfl) (by kernel_rfl) (fun _ _ _ h => h) (by rfl) hH0 ?_
              try simp only [Act.put, List.setIfInBounds_toArray, List.set_cons_zero, List.set_cons_succ]
              refine any_skip 26 136 rfl rfl (by kernel_rfl) (by kernel_rfl) (by kernel_rfl) (fun _ _ _ h => h) (by rfl) hH0 ?_
              try simp only [Act.put, List.setIfInBounds_toArray, List.set_cons_zero, List.set_cons_succ]
              refine any_skip 27 137 rfl rfl (by kernel_rfl) (by kernel_rfl) (by kernel_rfl) (fun _ _ _ h => h) (by rfl) hH0 ?_
              try simp only [Act.put, List.setIfInBounds_toArray, List.set_cons_zero, List.set_cons_succ]
              refine any_skip 28 138 rfl rfl (by kernel_rfl) (by kernel_rfl) (by kernel_rfl) (fun _ _ _ h => h) (by rfl) hH0 ?_
              try simp only [Act.put, List.setIfInBounds_toArray, List.set_cons_zero, List.set_cons_succ]
              refine any_take 29 139 ?vc5x29 rfl rfl (by kernel_rfl) (by kernel_rfl) (by kernel_rfl) (fun _ _ _ h => h) (by rfl) ?hyc5x29 hH0 ?restc5x29
              case hyc5x29 => ((intro W hSw); obtain ⟨s0, s1, s2, s3, s4, s5⟩ := hSw; go_simp; (try with_reducible rfl))
              try simp only [Act.put, List.setIfInBounds_toArray, List.set_cons_zero, List.set_cons_succ]
              refine any_take 30 140 ?vc5x30 rfl rfl (by kernel_rfl) (by kernel_rfl) (by kernel_rfl) (fun _ _ _ h => h) (by rfl) ?hyc5x30 hH0 ?restc5x30
              case hyc5x30 => ((intro W hSw); obtain ⟨s0, s1, s2, s3, s4, s5⟩ := hSw; go_simp; (try with_reducible rfl))
              try simp only [Act.put, List.setIfInBounds_toArray, List.set_cons_zero, List.set_cons_succ]
              refine any_take 31 141 ?vc5x31 rfl rfl (by kernel_rfl) (by kernel_rfl) (by kernel_rfl) (fun _ _ _ h => h) (by rfl) ?hyc5x31 hH0 ?restc5x31
              case hyc5x31 => ((intro W hSw); obtain ⟨s0, s1, s2, s3, s4, s5⟩ := hSw; go_simp; (try with_reducible rfl))
              try simp only [Act.put, List.setIfInBounds_toArray, List.set_cons_zero, List.set_cons_succ]
              refine any_take 32 142 ?vc5x32 rfl rfl (by kernel_rfl) (by kernel_rfl) (by kernel_rfl) (fun _ _ _ h => h) (by rfl) ?hyc5x32 hH0 ?restc5x32
              case hyc5x32 => ((intro W hSw); obtain ⟨s0, s1, s2, s3, s4, s5⟩ := hSw; go_simp; (try with_reducible rfl))
              try simp only [Act.put, List.setIfInBounds_toArray, List.set_cons_zero, List.set_cons_succ]
              refine wpAnyH_ready (rs := [33]) (by kernel_rfl) (by simp) ?_
              refine AllReadyH.cons rfl (fun K hK => ?_) AllReadyH.nil
              go_simp
              refine hK.out _ _ (by rw [setCell_same LS3.out rfl]; exact HS18.out) (fun hH4 => ?_)
              clear hK K hH0 hH4
              try simp only [Act.put, List.setIfInBounds_toArray, List.set_cons_zero, List.set_cons_succ]
              refine wpAnyH_done (by kernel_rfl) ?_ _
              refine NoPanic.normal ?_
              rw [setCell_same LS3.out rfl]
              go_wp2
              go_roundw
              case rel => exact ⟨j + 1, k + 1, by omega, by go_num, by rw [HX3.out]; rfl⟩
              case measure => simp [intOf]; omega
        · have d0 : decide ((j : Int) < (no : Int)) = false := by rw [decide_eq_false_iff_not]; omega
          have d0b : decide (j < no) = false := by rw [decide_eq_false_iff_not]; omega
          go_wp2_with fail
          clear m0 m1 m2 m3 m4 m5 f0 f1 f2 f3 f4 f5 v0 v1 v2 v3 v4 v5 v6 v7 v8 v9 v10 o0 o1 o2 o3 o4 o5
          clear d0 d0b hlt hj SM2 LS2 LC2 LN2 HF2 HN2 HX3 LS3
          have HG1 := Lib.hid (show gC + 1 ≠ gs by have := HGN.out; omega)
          have HG2 := Lib.hid (show gC ≠ gs by have := HGN.out; omega)
          skip
          have LSx : Hid (Lies x3 gs 62 #[.int .u32 (ep : Int), .slice A n c, .slice Da nd dc, .slice Ta nt tc, .slice Oa no oc, .bool false]) := Lib.hid SM3.out.box
          obtain ⟨gl0, gl1, gl2, gl3, gl4, gl5⟩ := LSx.out.cells6
          obtain ⟨gf0, gf1, gf2, gf3, gf4, gf5⟩ := LSx.out.free6
          obtain ⟨-, -, ga2, ga3, ga4, -⟩ := Lies.cells6 (LSx.out.alloc (.cells #[.int .u32 (O : Int), .int .i64 S, .bool un, .slice Ad ld cd, .int .i64 0, .slice none 0 0] 34))
          have GA := Lib.hid ga2
          clear ga2 ga3 ga4
          have HGL := Lib.hid (show gs + 1 ≤ (x3.alloc (.cells #[.int .u32 (O : Int), .int .i64 S, .bool un, .slice Ad ld cd, .int .i64 0, .slice none 0 0] 34)).heap.size from Nat.le_trans LSx.out.lt (by simp))
          refine wp_region_noPanic ?_
          refine wp_region_held_drew (S := fun W => W.cell? ⟨gC + 1, 5, none⟩ = some (.int .u32 (O : Int)) ∧ W.cell? ⟨gC + 1, 6, none⟩ = some (.int .i64 S) ∧ W.cell? ⟨gC + 1, 7, none⟩ = some (.bool un) ∧ W.cell? ⟨gC, 4, none⟩ = some (.slice Ad ld cd)) (by kernel_rfl) (s20 (LN3.out) (LC3.out)) (fun hH0 => ?_)
          refine any_take 0 145 ?vc6x0 rfl rfl (by kernel_rfl) (by kernel_rfl) (by kernel_rfl) (fun _ _ _ h => h) (by rfl) ?hyc6x0 hH0 ?restc6x0
          case hyc6x0 => ((intro W hSw); obtain ⟨s0, s1, s2, s3⟩ := hSw; go_simp; (try with_reducible rfl))
          try simp only [Act.put, List.setIfInBounds_toArray, List.set_cons_zero, List.set_cons_succ]
          refine any_take 1 146 ?vc6x1 rfl rfl (by kernel_rfl) (by kernel_rfl) (by kernel_rfl) (fun _ _ _ h => h) (by rfl) ?hyc6x1 hH0 ?restc6x1
          case hyc6x1 => ((intro W hSw); obtain ⟨s0, s1, s2, s3⟩ := hSw; go_simp; (try with_reducible rfl))
          try simp only [Act.put, List.setIfInBounds_toArray, List.set_cons_zero, List.set_cons_succ]
          refine any_take 2 147 ?vc6x2 rfl rfl (by kernel_rfl) (by kernel_rfl) (by kernel_rfl) (fun _ _ _ h => h) (by rfl) ?hyc6x2 hH0 ?restc6x2
          case hyc6x2 => ((intro W hSw); obtain ⟨s0, s1, s2, s3⟩ := hSw; go_simp; (try with_reducible rfl))
          try simp only [Act.put, List.setIfInBounds_toArray, List.set_cons_zero, List.set_cons_succ]
          refine any_take 3 148 ?vc6x3 rfl rfl (by kernel_rfl) (by kernel_rfl) (by kernel_rfl) (fun _ _ _ h => h) (by rfl) ?hyc6x3 hH0 ?restc6x3
          case hyc6x3 => ((intro W hSw); obtain ⟨s0, s1, s2, s3⟩ := hSw; go_simp; (try with_reducible rfl))
          try simp only [Act.put, List.setIfInBounds_toArray, List.set_cons_zero, List.set_cons_succ]
          refine any_take 5 150 ?vc6x5 rfl rfl (by kernel_rfl) (by kernel_rfl) (by kernel_rfl) (fun _ _ _ h => h) (by rfl) ?hyc6x5 hH0 ?restc6x5
          case hyc6x5 => ((intro W hSw); obtain ⟨s0, s1, s2, s3⟩ := hSw; go_simp; (try with_reducible rfl))
          try simp only [Act.put, List.setIfInBounds_toArray, List.set_cons_zero, List.set_cons_succ]
          refine any_take 6 151 ?vc6x6 rfl rfl (by kernel_rfl) (by kernel_rfl) (by kernel_rfl) (fun _ _ _ h => h) (by rfl) ?hyc6x6 hH0 ?restc6x6
          case hyc6x6 => ((intro W hSw); obtain ⟨s0, s1, s2, s3⟩ := hSw; go_simp; (try with_reducible rfl))
          try simp only [Act.put, List.setIfInBounds_toArray, List.set_cons_zero, List.set_cons_succ]
          refine any_take 7 152 ?vc6x7 rfl rfl (by kernel_rfl) (by kernel_rfl) (by kernel_rfl) (fun _ _ _ h => h) (by rfl) ?hyc6x7 hH0 ?restc6x7
          case hyc6x7 => ((intro W hSw); obtain ⟨s0, s1, s2, s3⟩ := hSw; go_simp; (try with_reducible rfl))
          try simp only [Act.put, List.setIfInBounds_toArray, List.set_cons_zero, List.set_cons_succ]
          refine any_take 8 153 ?vc6x8 rfl rfl (by kernel_rfl) (by kernel_rfl) (by kernel_rfl) (fun _ _ _ h => h) (by rfl) ?hyc6x8 hH0 ?restc6x8
          case hyc6x8 => ((intro W hSw); obtain ⟨s0, s1, s2, s3⟩ := hSw; go_simp; (try with_reducible rfl))
          try simp only [Act.put, List.setIfInBounds_toArray, List.set_cons_zero, List.set_cons_succ]
          refine any_take 9 154 ?vc6x9 rfl rfl (by kernel_rfl) (by kernel_rfl) (by kernel_rfl) (fun _ _ _ h => h) (by rfl) ?hyc6x9 hH0 ?restc6x9
          case hyc6x9 => ((intro W hSw); obtain ⟨s0, s1, s2, s3⟩ := hSw; go_simp; (try with_reducible rfl))
          try simp only [Act.put, List.setIfInBounds_toArray, List.set_cons_zero, List.set_cons_succ]
          refine any_take 10 155 ?vc6x10 rfl rfl (by kernel_rfl) (by kernel_rfl) (by kernel_rfl) (fun _ _ _ h => h) (by rfl) ?hyc6x10 hH0 ?restc6x10
          case hyc6x10 => ((intro W hSw); obtain ⟨s0, s1, s2, s3⟩ := hSw; go_simp; (try with_reducible rfl))
          try simp only [Act.put, List.setIfInBounds_toArray, List.set_cons_zero, List.set_cons_succ]
          refine any_take 11 156 ?vc6x11 rfl rfl (by kernel_rfl) (by kernel_rfl) (by kernel_rfl) (fun _ _ _ h => h) (by rfl) ?hyc6x11 hH0 ?restc6x11
          case hyc6x11 => ((intro W hSw); obtain ⟨s0, s1, s2, s3⟩ := hSw; go_simp; (try with_reducible rfl))
          try simp only [Act.put, List.setIfInBounds_toArray, List.set_cons_zero, List.set_cons_succ]
          refine any_take 12 157 ?vc6x12 rfl rfl (by kernel_rfl) (by kernel_rfl) (by kernel_rfl) (fun _ _ _ h => h) (by rfl) ?hyc6x12 hH0 ?restc6x12
          case hyc6x12 => ((intro W hSw); obtain ⟨s0, s1, s2, s3⟩ := hSw; go_simp; (try with_reducible rfl))
          try simp only [Act.put, List.setIfInBounds_toArray, List.set_cons_zero, List.set_cons_succ]
          refine any_take 13 158 ?vc6x13 rfl rfl (by kernel_rfl) (by kernel_rfl) (by kernel_rfl) (fun _ _ _ h => h) (by rfl) ?hyc6x13 hH0 ?restc6x13
          case hyc6x13 => ((intro W hSw); obtain ⟨s0, s1, s2, s3⟩ := hSw; go_simp; (try with_reducible rfl))
          try simp only [Act.put, List.setIfInBounds_toArray, List.set_cons_zero, List.set_cons_succ]
          refine wpAnyH_ready (rs := [4, 14]) (by kernel_rfl) (by simp) ?_
          refine AllReadyH.cons rfl (fun K hK => ?_) (AllReadyH.cons rfl (fun K hK => ?_) AllReadyH.nil)
          · go_simp
            refine hK.out _ _ (s20 (LN3.out) (LC3.out)) (fun hH1 => ?_)
            clear hK K hH0
            try simp only [Act.put, List.setIfInBounds_toArray, List.set_cons_zero, List.set_cons_succ]
            refine wpAnyH_ready (rs := [14]) (by kernel_rfl) (by simp) ?_
            refine AllReadyH.cons rfl (fun K hK => ?_) AllReadyH.nil
            go_simp
            refine hK.out _ _ (s20 (LN3.out.alloc (.cells #[.int .u32 (O : Int), .int .i64 S, .bool un, .slice Ad ld cd, .int .i64 0, .slice none 0 0] 34)) (LC3.out.alloc (.cells #[.int .u32 (O : Int), .int .i64 S, .bool un, .slice Ad ld cd, .int .i64 0, .slice none 0 0] 34))) (fun hH2 => ?_)
            clear hK K hH1
            try simp only [Act.put, List.setIfInBounds_toArray, List.set_cons_zero, List.set_cons_succ]
            refine wpAnyH_ready (rs := [15]) (by kernel_rfl) (by simp) ?_
            refine AllReadyH.cons rfl (fun K hK => ?_) AllReadyH.nil
            refine stp_appendK (some 160) _ _ _ (.tmp 149) (.tmp 159) (gs + 1) (.slice Da nd dc) nd D x3.heap.size ⟨⟨O, S, un, l, 0, []⟩, .slice Ad ld cd, .slice none 0 0⟩ rfl rfl (OwnK.drew (SM3.out.d.alloc (.cells #[.int .u32 (O : Int), .int .i64 S, .bool un, .slice Ad ld cd, .int .i64 0, .slice none 0 0] 34))) (Lies.drew (Lies.made x3 34 #[.int .u32 (O : Int), .int .i64 S, .bool un, .slice Ad ld cd, .int .i64 0, .slice none 0 0])) ⟨rfl, rfl⟩ (by have := HNN.out.2.2.1; omega) HGL.out ?_
            intro gg cap w9 ho9 hg9 hb9
            have LN9 := Lib.hid (Lies.grown (Lies.drew (LN3.out.alloc (.cells #[.int .u32 (O : Int), .int .i64 S, .bool un, .slice Ad ld cd, .int .i64 0, .slice none 0 0] 34))) hg9 (SM3.out.d.ne LN3.out (by decide)))
            have LC9 := Lib.hid (Lies.grown (Lies.drew (LC3.out.alloc (.cells #[.int .u32 (O : Int), .int .i64 S, .bool un, .slice Ad ld cd, .int .i64 0, .slice none 0 0] 34))) hg9 (SM3.out.d.ne LC3.out (by decide)))
            skip
            have SMn := Lib.hid (SM.done (y := ⟨⟨O, S, un, l, 0, []⟩, .slice Ad ld cd, .slice none 0 0⟩) (SM.drew (SM3.out.alloc (.cells #[.int .u32 (O : Int), .int .i64 S, .bool un, .slice Ad ld cd, .int .i64 0, .slice none 0 0] 34))) ⟨_, _, _, rfl, rfl⟩ ho9 hg9 hb9)
            have LS9 := Lib.hid (Lies.grown (Lies.drew (LSx.out.alloc (.cells #[.int .u32 (O : Int), .int .i64 S, .bool un, .slice Ad ld cd, .int .i64 0, .slice none 0 0] 34))) hg9 (fun q => by have := (SM3.out.d).block _ q.symm; omega))
            clear ho9 hg9 hb9
            obtain ⟨t0, t1, t2, t3, t4, t5⟩ := LS9.out.cells6
            obtain ⟨r0, r1, r2, r3, r4, r5⟩ := LS9.out.free6
            refine hK.out _ _ (s20 (LN9.out) (LC9.out)) (fun hH3 => ?_)
            clear hK K hH2
            try simp only [Act.put, List.setIfInBounds_toArray, List.set_cons_zero, List.set_cons_succ]
            refine any_take 16 161 ?vc7x16 rfl rfl (by kernel_rfl) (by kernel_rfl) (by kernel_rfl) (fun _ _ _ h => h) (by rfl) ?hyc7x16 hH3 ?restc7x16
            case hyc7x16 => ((intro W hSw); obtain ⟨s0, s1, s2, s3⟩ := hSw; go_simp; (try with_reducible rfl))
            try simp only [Act.put, List.setIfInBounds_toArray, List.set_cons_zero, List.set_cons_succ]
            refine any_take 17 162 ?vc7x17 rfl rfl (by kernel_rfl) (by kernel_rfl) (by kernel_rfl) (fun _ _ _ h => h) (by rfl) ?hyc7x17 hH3 ?restc7x17
            case hyc7x17 => ((intro W hSw); obtain ⟨s0, s1, s2, s3⟩ := hSw; go_simp; (try with_reducible rfl))
            try simp only [Act.put, List.setIfInBounds_toArray, List.set_cons_zero, List.set_cons_succ]
            refine wpAnyH_ready (rs := [18]) (by kernel_rfl) (by simp) ?_
            refine AllReadyH.cons rfl (fun K hK => ?_) AllReadyH.nil
            go_simp
            have LNn := Lib.hid (LN9.out.other (a := ⟨gs, 2, none⟩) HG1.out (.slice (some ⟨gg, 0, none⟩) (nd + 1) cap))
            have LCn := Lib.hid (LC9.out.other (a := ⟨gs, 2, none⟩) HG2.out (.slice (some ⟨gg, 0, none⟩) (nd + 1) cap))
            refine hK.out _ _ (s20 (LNn.out) (LCn.out)) (fun hH4 => ?_)
            clear hK K hH3 hH4
            try simp only [Act.put, List.setIfInBounds_toArray, List.set_cons_zero, List.set_cons_succ]
            refine wpAnyH_done (by kernel_rfl) ?_ _
            refine NoPanic.normal ?_
            clear t0 t1 t2 t3 t4 t5 r0 r1 r2 r3 r4 r5 gl0 gl1 gl2 gl3 gl4 gl5 gf0 gf1 gf2 gf3 gf4 gf5 GA LS9
            go_wp2_with fail
            go_meet
            exact ⟨rfl, gg, cap, SMn.out, LNn.out⟩
          · go_simp
            refine hK.out _ _ (s20 (LN3.out.alloc (.cells #[.int .u32 (O : Int), .int .i64 S, .bool un, .slice Ad ld cd, .int .i64 0, .slice none 0 0] 34)) (LC3.out.alloc (.cells #[.int .u32 (O : Int), .int .i64 S, .bool un, .slice Ad ld cd, .int .i64 0, .slice none 0 0] 34))) (fun hH1 => ?_)
            clear hK K hH0
            try simp only [Act.put, List.setIfInBounds_toArray, List.set_cons_zero, List.set_cons_succ]
            have e5 := GA.out
            refine wpAnyH_ready (rs := [4]) (by kernel_rfl) (by simp) ?_
            refine AllReadyH.cons rfl (fun K hK => ?_) AllReadyH.nil
            go_simp
            refine hK.out _ _ (s20 (LN3.out.alloc (.cells #[.int .u32 (O : Int), .int .i64 S, .bool un, .slice Ad ld cd, .int .i64 0, .slice none 0 0] 34)) (LC3.out.alloc (.cells #[.int .u32 (O : Int), .int .i64 S, .bool un, .slice Ad ld cd, .int .i64 0, .slice none 0 0] 34))) (fun hH2 => ?_)
            clear hK K hH1
            try simp only [Act.put, List.setIfInBounds_toArray, List.set_cons_zero, List.set_cons_succ]
            clear e5
            refine wpAnyH_ready (rs := [15]) (by kernel_rfl) (by simp) ?_
            refine AllReadyH.cons rfl (fun K hK => ?_) AllReadyH.nil
            refine stp_appendK (some 160) _ _ _ (.tmp 149) (.tmp 159) (gs + 1) (.slice Da nd dc) nd D x3.heap.size ⟨⟨O, S, un, l, 0, []⟩, .slice Ad ld cd, .slice none 0 0⟩ rfl rfl (OwnK.drew (SM3.out.d.alloc (.cells #[.int .u32 (O : Int), .int .i64 S, .bool un, .slice Ad ld cd, .int .i64 0, .slice none 0 0] 34))) (Lies.drew (Lies.made x3 34 #[.int .u32 (O : Int), .int .i64 S, .bool un, .slice Ad ld cd, .int .i64 0, .slice none 0 0])) ⟨rfl, rfl⟩ (by have := HNN.out.2.2.1; omega) HGL.out ?_
            intro gg cap w9 ho9 hg9 hb9
            have LN9 := Lib.hid (Lies.grown (Lies.drew (LN3.out.alloc (.cells #[.int .u32 (O : Int), .int .i64 S, .bool un, .slice Ad ld cd, .int .i64 0, .slice none 0 0] 34))) hg9 (SM3.out.d.ne LN3.out (by decide)))
            have LC9 := Lib.hid (Lies.grown (Lies.drew (LC3.out.alloc (.cells #[.int .u32 (O : Int), .int .i64 S, .bool un, .slice Ad ld cd, .int .i64 0, .slice none 0 0] 34))) hg9 (SM3.out.d.ne LC3.out (by decide)))
            skip
            have SMn := Lib.hid (SM.done (y := ⟨⟨O, S, un, l, 0, []⟩, .slice Ad ld cd, .slice none 0 0⟩) (SM.drew (SM3.out.alloc (.cells #[.int .u32 (O : Int), .int .i64 S, .bool un, .slice Ad ld cd, .int .i64 0, .slice none 0 0] 34))) ⟨_, _, _, rfl, rfl⟩ ho9 hg9 hb9)
            have LS9 := Lib.hid (Lies.grown (Lies.drew (LSx.out.alloc (.cells #[.int .u32 (O : Int), .int .i64 S, .bool un, .slice Ad ld cd, .int .i64 0, .slice none 0 0] 34))) hg9 (fun q => by have := (SM3.out.d).block _ q.symm; omega))
            clear ho9 hg9 hb9
            obtain ⟨t0, t1, t2, t3, t4, t5⟩ := LS9.out.cells6
            obtain ⟨r0, r1, r2, r3, r4, r5⟩ := LS9.out.free6
            refine hK.out _ _ (s20 (LN9.out) (LC9.out)) (fun hH3 => ?_)
            clear hK K hH2
            try simp only [Act.put, List.setIfInBounds_toArray, List.set_cons_zero, List.set_cons_succ]
            refine any_take 16 161 ?vc8x16 rfl rfl (by kernel_rfl) (by kernel_rfl) (by kernel_rfl) (fun _ _ _ h => h) (by rfl) ?hyc8x16 hH3 ?restc8x16
            case hyc8x16 => ((intro W hSw); obtain ⟨s0, s1, s2, s3⟩ := hSw; go_simp; (try with_reducible rfl))
            try simp only [Act.put, List.setIfInBounds_toArray, List.set_cons_zero, List.set_cons_succ]
            refine any_take 17 162 ?vc8x17 rfl rfl (by kernel_rfl) (by kernel_rfl) (by kernel_rfl) (fun _ _ _ h => h) (by rfl) ?hyc8x17 hH3 ?restc8x17
            case hyc8x17 => ((intro W hSw); obtain ⟨s0, s1, s2, s3⟩ := hSw; go_simp; (try with_reducible rfl))
            try simp only [Act.put, List.setIfInBounds_toArray, List.set_cons_zero, List.set_cons_succ]
            refine wpAnyH_ready (rs := [18]) (by kernel_rfl) (by simp) ?_
            refine AllReadyH.cons rfl (fun K hK => ?_) AllReadyH.nil
            go_simp
            have LNn := Lib.hid (LN9.out.other (a := ⟨gs, 2, none⟩) HG1.out (.slice (some ⟨gg, 0, none⟩) (nd + 1) cap))
            have LCn := Lib.hid (LC9.out.other (a := ⟨gs, 2, none⟩) HG2.out (.slice (some ⟨gg, 0, none⟩) (nd + 1) cap))
            refine hK.out _ _ (s20 (LNn.out) (LCn.out)) (fun hH4 => ?_)
            clear hK K hH3 hH4
            try simp only [Act.put, List.setIfInBounds_toArray, List.set_cons_zero, List.set_cons_succ]
            refine wpAnyH_done (by kernel_rfl) ?_ _
            refine NoPanic.normal ?_
            clear t0 t1 t2 t3 t4 t5 r0 r1 r2 r3 r4 r5 gl0 gl1 gl2 gl3 gl4 gl5 gf0 gf1 gf2 gf3 gf4 gf5 GA LS9
            go_wp2_with fail
            go_meet
            exact ⟨rfl, gg, cap, SMn.out, LNn.out⟩
    case rest =>
      clear m0 m1 m2 m3 m4 m5 f0 f1 f2 f3 f4 f5 v0 v1 v2 v3 v4 v5 v6 v7 v8 v9 v10 o0 o1 o2 o3 o4 o5
      obtain ⟨rfl, g4, cap4, hs4, hl4⟩ := hcut
      generalize wc = x4 at *
      have SM4 := Lib.hid hs4
      have LN4 := Lib.hid hl4
      have HF4 : Hid (FV x4 A n c (fun i => (Y i).k)) := Lib.hid hs4.fv
      have HN4 : Hid (EntV x4 (stN E O S un l) none Ad 0 cd) := Lib.hid (HNW.out x4 hs4.bel)
      clear hs4 hl4 SM2 LN2 LC2 HF2 HN2
      go_wp2_with fail
      rename_i K0 hK0
      have HN2x := Lib.hid (show n < 200 ∧ nt < 200 ∧ nd + 1 < 201 ∧ no < 200 by have := HNN.out; omega)
      refine tail21 w0 gs gC _ ep A n c Y (some ⟨g4, 0, none⟩) (nd + 1) cap4 (snoc nd D ⟨⟨O, S, un, l, 0, []⟩, .slice Ad ld cd, .slice none 0 0⟩) Ta nt tc U Oa no oc Ov E O S un Ad ld cd l x4 SM4 LN4 HF4 HN4 HNT HLD H64 HEP KE0 HGN HNS HFN HON HN2x (Lib.hid ?hik) (Lib.hid ?hs0) K0 hK0 _ _ _ _ _ _ _ _ _ _ _ _ _ _ _ _ _ _ _ _ _ _ _ _ _ _ _ _ _ _ _ _ _ _ _ _ _ _ _ _ _ _ _ _ _ _ _ _ _ _ _ _ _ _ _ _ _ _ _ _ _ _ _ _ _ _ _ _ _ _ _ _ _ _ _ _ _ _ _ _ _ _ _ _ _ _ _ _ _ _ _ _ _ _ _ _ _ _ _ _ _ _ _ _ _ _ _ _ _ _ _ _ _ _ _ _ _ _ _ _ _ _ _ _ _ _ _ _ _ _ _ _ _ _ _ _ _ _ _ _ _ _ _ _ _ _ _ _ _ _ _ _ _ _ _ _ _ _ _ _ _ _ _ _ _ _ _ _ _ _ _ _ _ _ _ _ _ _ _ _ _ _ _ _ _ _ _ _ _ _ _ _ _ _ _ _ _ _ _ _ _ _ _ _ _ _ _ _ _ _ _ _ _ _ _ _ _ _ _ _ _ _ _ _ _ _ _ _ _ _ _ _ _ _ _ _ _ _ _ _ _ _ _ _ _ _ _ _
      case hik => exact HIK.out.congr (fun i hi => rfl) (fun i hi => (snoc_congr (m := nd) (X := D) (x := ⟨⟨O, S, un, l, 0, []⟩, .slice Ad ld cd, .slice none 0 0⟩)).symm) (fun i hi => rfl) (fun i hi => rfl)
      case hs0 => exact ⟨Nat.le_refl _, Nat.le_refl _, Nat.le_refl _, Nat.le_refl _⟩

end Go.Proofs.Ytfcfejmammohpaa
