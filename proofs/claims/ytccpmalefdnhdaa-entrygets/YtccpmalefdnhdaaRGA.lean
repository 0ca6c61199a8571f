/-
  The contract of the document's Get: for each kind that is read.
-/
import Derived.Test.YtccpmalefdnhdaaRGBase
namespace Go.Proofs.Ytccpmalefdnhdaa
open Go.RowKit
set_option linter.unusedVariables false
set_option linter.unusedSimpArgs false

set_option maxRecDepth 100000 in
set_option maxHeartbeats 2000000 in
theorem rget_0 (a : Option Addr) (n cap : Nat) (l : List Nat) (w : World) (s1 : Ent.St) (h1 : Ent.rnum l 1 (0, false) = (0, s1)) (hB : Bys w a n l) (hn : n ≤ 100000) (hnc : n ≤ cap) (hcm : cap ≤ maxLen) :
    Calls Try.prog 22 #[.slice a n cap] w (RGetPost l w) := by
  have hlen := hB.1
  have hl : l.length ≤ 100000 := by omega
  have hsm := hB.2.1
  obtain ⟨x2, s2, h2⟩ : ∃ x s, Ent.rnum l 8 s1 = (x, s) := ⟨_, _, rfl⟩
  obtain ⟨x3, s3, h3⟩ : ∃ x s, Ent.rnum l 4 s2 = (x, s) := ⟨_, _, rfl⟩
  have by3 : x3 < 4294967296 := by have hq := Ent.rnum_lt l hsm 4 s2; rw [h3] at hq; exact hq
  have her : Ent.rd fpos l = (⟨0, x2, x3, 0, 0, false, 0, 0, 0, [], []⟩ : Entry) := by
    refine (Ent.rd_rest fpos l _ _ _ s1 s2 s3 h1 h2 h3).trans ?_
    show Ent.rest fpos l 0 s3 x2 x3 = _
    unfold Ent.rest
    simp only [Ent.rO_no l 0 _ rfl, Ent.rK_no l 0 _ rfl, Ent.rS_no l 0 _ rfl, Ent.rC_no l 0 _ rfl, Ent.rM_no l 0 _ rfl]
    rfl
  have hbnd : Ent.Bnd (⟨0, x2, x3, 0, 0, false, 0, 0, 0, [], []⟩ : Entry) := by rw [← her]; exact Ent.rd_bnd fpos l hsm
  have HBND := Lib.hid hbnd
  have HER := Lib.hid her
  have hR0 : Rf ((w.alloc (.cells zc 26)).alloc (.cells #[.slice a n cap, .int .i64 0, .bool false] 82)) (w.heap.size + 1) (0, false) l := by
    refine ⟨a, cap, ?_, by rw [hlen]; exact (hB.alloc _).alloc _, ?_, Nat.zero_le _, by omega, hcm⟩
    · rw [hlen]; exact Lies.made2 w _ 82 _
    · intro h0 ad e
      obtain ⟨b, off, e2, hc⟩ := hB.2.2 (by omega)
      have := block_lt_of_cell (hc 0 (by omega))
      rw [e2] at e; injection e with e; subst e; show b < _; simp at this; omega
  have BB0 := Lib.hid (below2 w (.cells zc 26) (.cells #[.slice a n cap, .int .i64 0, .bool false] 82))
  have Z0 := Lib.hid ((Lies.made w 26 zc).alloc (.cells #[.slice a n cap, .int .i64 0, .bool false] 82))
  have cc := rfnum_any (w.heap.size + 1) 1 (0, false) l _ hR0 (by omega) (by omega) hl
  unfold RfnPost at cc
  rw [h1] at cc
  simp only at cc
  rw [show ((1 : Nat) : Int) = 1 from rfl] at cc
  rw [show ((0 : Nat) : Int) = 0 from rfl] at cc
  have C1 := Lib.hid cc
  have H2 := Lib.hid h2
  have H3 := Lib.hid h3
  have HB := Lib.hid hB
  have HL := Lib.hid hl
  have HN := Lib.hid hlen
  clear cc hR0 her hbnd hsm hB hl hlen h1 h2 h3
  go_enter Try.func22, Try.ntmps22
  go_wp2_with fail
  with_reducible refine C1.out.mono ?_
  rintro x w1 ⟨rfl, hR1, hg1⟩
  have hz1 : Lies w1 w.heap.size 26 (evs Ent.zero nilV nilV) := Z0.out.grown hg1 (fun e => by injection e; omega)
  have Z1 := Lib.hid hz1
  clear hz1
  have BB1 := Lib.hid (BB0.out.grown hg1 BB0.out.size (fun k hk => by injection hk with hk; omega))
  obtain ⟨q, hq⟩ : ∃ q, w1.heap.size = q := ⟨_, rfl⟩
  have hpq : w.heap.size + 1 < q := by rw [← hq]; exact hR1.lt
  have HR1 := Lib.hid hR1
  clear hR1 hg1 C1 Z0 BB0
  have le1 : Lies (w1.alloc (.cells (zk 0) 26)) q 26 (evs (⟨0, 0, 0, 0, 0, false, 0, 0, 0, [], []⟩ : Entry) nilV nilV) := by rw [← hq]; exact Lies.made w1 26 _
  have LE1s := Lib.hid le1
  have Z1s := Lib.hid (Z1.out.alloc (.cells (zk 0) 26))
  have BB1s := Lib.hid (BB1.out.alloc BB1.out.size (.cells (zk 0) 26))
  have HR1s := Lib.hid (HR1.out.below ((Below.refl _ _).alloc (Nat.le_refl _) (.cells (zk 0) 26)))
  clear le1
  have cc := rfnum_any (w.heap.size + 1) 8 s1 l (w1.alloc (.cells (zk 0) 26)) HR1s.out (by omega) (by omega) HL.out
  unfold RfnPost at cc
  rw [H2.out] at cc
  simp only at cc
  rw [show ((8 : Nat) : Int) = 8 from rfl] at cc
  have C2 := Lib.hid cc
  clear cc
  go_wp2_with fail
  with_reducible refine C2.out.mono ?_
  have HQ := Lib.hid hq
  clear C2 hq
  rintro x w2 ⟨rfl, hR2, hg2⟩
  have LE2 := Lib.hid (LE1s.out.grown hg2 (fun e => by injection e; omega))
  have Z2 := Lib.hid (Z1s.out.grown hg2 (fun e => by injection e; omega))
  have BB2 := Lib.hid (BB1s.out.grown hg2 BB1s.out.size (fun k hk => by injection hk with hk; omega))
  have HR2 := Lib.hid hR2
  clear hR2 hg2 LE1s Z1s BB1s HR1s Z1 BB1 HR1
  have f2 : w2.cell? ⟨q, 1, none⟩ = some (.int .u64 0) := LE2.out.cell 1
  have g2 : w2.frozen? ⟨q, 1, none⟩ = false := LE2.out.free 1
  have k20 : w2.cell? ⟨q, 0, none⟩ = some (.int .i64 0) := LE2.out.cell 0
  have le : Lies (w2.setCell ⟨q, 1, none⟩ (.int .u64 ((x2 : Nat) : Int))) q 26 (evs (⟨0, x2, 0, 0, 0, false, 0, 0, 0, [], []⟩ : Entry) nilV nilV) := LE2.out.put 1 _
  have LE2s := Lib.hid le
  clear le
  have Z2s := Lib.hid (Z2.out.other (a := ⟨q, 1, none⟩) (by show w.heap.size ≠ q; omega) (.int .u64 ((x2 : Nat) : Int)))
  have HR2s := Lib.hid (HR2.out.setq hpq 1 (.int .u64 ((x2 : Nat) : Int)))
  have BB2s := Lib.hid (BB2.out.setCell (p := ⟨q, 1, none⟩) (by show w.heap.size ≤ q; omega) (.int .u64 ((x2 : Nat) : Int)))
  clear LE2 Z2 HR2 BB2
  have cc := rfnum_any (w.heap.size + 1) 4 s2 l (w2.setCell ⟨q, 1, none⟩ (.int .u64 ((x2 : Nat) : Int))) HR2s.out (by omega) (by omega) HL.out
  unfold RfnPost at cc
  rw [H3.out] at cc
  simp only at cc
  rw [show ((4 : Nat) : Int) = 4 from rfl] at cc
  have C3 := Lib.hid cc
  clear cc
  go_wp2_with fail
  with_reducible refine C3.out.mono ?_
  clear C3 f2 g2 k20
  rintro x w3 ⟨rfl, hR3, hg3⟩
  have LE3 := Lib.hid (LE2s.out.grown hg3 (fun e => by injection e; omega))
  have Z3 := Lib.hid (Z2s.out.grown hg3 (fun e => by injection e; omega))
  have BB3 := Lib.hid (BB2s.out.grown hg3 BB2s.out.size (fun k hk => by injection hk with hk; omega))
  have HR3 := Lib.hid hR3
  clear hR3 hg3 LE2s Z2s BB2s HR2s
  have f3 : w3.cell? ⟨q, 2, none⟩ = some (.int .u32 0) := LE3.out.cell 2
  have g3 : w3.frozen? ⟨q, 2, none⟩ = false := LE3.out.free 2
  have k30 : w3.cell? ⟨q, 0, none⟩ = some (.int .i64 0) := LE3.out.cell 0
  have le : Lies (w3.setCell ⟨q, 2, none⟩ (.int .u32 ((x3 : Nat) : Int))) q 26 (evs (⟨0, x2, x3, 0, 0, false, 0, 0, 0, [], []⟩ : Entry) nilV nilV) := LE3.out.put 2 _
  have LE3s := Lib.hid le
  clear le
  have Z3s := Lib.hid (Z3.out.other (a := ⟨q, 2, none⟩) (by show w.heap.size ≠ q; omega) (.int .u32 ((x3 : Nat) : Int)))
  have HR3s := Lib.hid (HR3.out.setq hpq 2 (.int .u32 ((x3 : Nat) : Int)))
  have BB3s := Lib.hid (BB3.out.setCell (p := ⟨q, 2, none⟩) (by show w.heap.size ≤ q; omega) (.int .u32 ((x3 : Nat) : Int)))
  clear LE3 Z3 HR3 BB3
  have hV : EntV (w3.setCell ⟨q, 2, none⟩ (.int .u32 ((x3 : Nat) : Int))) (⟨0, x2, x3, 0, 0, false, 0, 0, 0, [], []⟩ : Entry) none none 0 0 := EntV.nil _ _ rfl rfl HBND.out
  have cp := refPut_any (⟨0, x2, x3, 0, 0, false, 0, 0, 0, [], []⟩ : Entry) none none 0 0 (w3.setCell ⟨q, 2, none⟩ (.int .u32 ((x3 : Nat) : Int))) hV
  obtain ⟨er, hel⟩ : ∃ e, (⟨0, x2, x3, 0, 0, false, 0, 0, 0, [], []⟩ : Entry) = e := ⟨_, rfl⟩
  have cp2 : Calls Try.prog 18 #[.agg #[.int .i64 0, .int .u64 ((x2 : Nat) : Int), .int .u32 ((x3 : Nat) : Int), .int .u32 0, .int .i64 0, .bool false, .int .i64 0, .int .i64 0, .int .u64 0, .slice none 0 0, .slice none 0 0]] (w3.setCell ⟨q, 2, none⟩ (.int .u32 ((x3 : Nat) : Int))) (PutPost er (w3.setCell ⟨q, 2, none⟩ (.int .u32 ((x3 : Nat) : Int)))) := by
    rw [← hel]
    exact cp
  have CPUT := Lib.hid cp2
  have hget : Ent.get fpos l = if Ent.ok er = true ∧ Ent.enc er = l then some er else none := by unfold Ent.get; rw [HER.out, hel]
  have HGET := Lib.hid hget
  have le : Lies (w3.setCell ⟨q, 2, none⟩ (.int .u32 ((x3 : Nat) : Int))) q 26 (evs er (.slice none 0 0) (.slice none 0 0)) := by rw [← hel]; exact LE3s.out
  have L6 := Lib.hid le
  have hk6 : Tx (w3.setCell ⟨q, 2, none⟩ (.int .u32 ((x3 : Nat) : Int))) (q + 1) (.slice none 0 0) er.key := by rw [← hel]; exact Tx.nil _ _
  have hd6 : Tx (w3.setCell ⟨q, 2, none⟩ (.int .u32 ((x3 : Nat) : Int))) (q + 1) (.slice none 0 0) er.data := by rw [← hel]; exact Tx.nil _ _
  have HK6 := Lib.hid hk6
  have HD6 := Lib.hid hd6
  obtain ⟨e0, e1, e2, e3, e4, e5, e6, e7, e8, e9, e10⟩ := LE3s.out.cellsE
  have Z6 := Lib.hid Z3s.out
  have BB6 := Lib.hid BB3s.out
  clear cp cp2 hget le hk6 hd6 hel hV LE3s Z3s BB3s HR3s HER HBND
  go_wp2_with fail
  with_reducible refine CPUT.out.mono ?_
  rintro x w7 ⟨v7, rfl, hO7, hb7⟩
  clear e0 e1 e2 e3 e4 e5 e6 e7 e8 e9 e10 f3 g3 k30
  have Z7 := Lib.hid (Z6.out.below hb7 Z6.out.lt)
  have L7 := Lib.hid (L6.out.below hb7 L6.out.lt)
  have BB7 := Lib.hid (BB6.out.trans (hb7.mono BB6.out.size))
  have HK7 := Lib.hid (HK6.out.below hb7)
  have HD7 := Lib.hid (HD6.out.below hb7)
  obtain ⟨A7, c7, rfl, hB7, _, _, _⟩ := hO7.slice
  have HBW := Lib.hid (HB.out.below BB7.out)
  have HB7 := Lib.hid hB7
  clear hO7 hb7 hB7 Z6 L6 BB6 HK6 HD6 CPUT
  have hzp : Lies (w7.setCells w.heap.size 0 (evs Ent.zero nilV nilV).toList) w.heap.size 26 (evs Ent.zero nilV nilV) ∧ Below w.heap.size w (w7.setCells w.heap.size 0 (evs Ent.zero nilV nilV).toList) := ⟨Z7.out.puts _ rfl, below_puts BB7.out (Nat.le_refl _) _ _⟩
  rw [setCells_zero] at hzp
  have HZP := Lib.hid hzp
  have hep : Lies (w7.setCells w.heap.size 0 (evs er (.slice none 0 0) (.slice none 0 0)).toList) w.heap.size 26 (evs er (.slice none 0 0) (.slice none 0 0)) ∧ Below w.heap.size w (w7.setCells w.heap.size 0 (evs er (.slice none 0 0) (.slice none 0 0)).toList) ∧ Tx (w7.setCells w.heap.size 0 (evs er (.slice none 0 0) (.slice none 0 0)).toList) (q + 1) (.slice none 0 0) er.key ∧ Tx (w7.setCells w.heap.size 0 (evs er (.slice none 0 0) (.slice none 0 0)).toList) (q + 1) (.slice none 0 0) er.data := ⟨Z7.out.puts _ rfl, below_puts BB7.out (Nat.le_refl _) _ _, HK7.out.puts (by omega) _ _, HD7.out.puts (by omega) _ _⟩
  rw [setCells_evs] at hep
  have HEP := Lib.hid hep
  clear hzp hep
  obtain ⟨n7, hn7⟩ : ∃ n, (putB er).length = n := ⟨_, rfl⟩
  rw [hn7] at HB7 ⊢
  have r2 := run_str HBW.out cap
  by_cases hok : Ent.ok er = true
  · have hc : chkN er = 0 := by unfold chkN; rw [if_pos hok]
    have hpb : putB er = Ent.enc er := by unfold putB; rw [if_pos hok]
    rw [hc]
    rw [hpb] at HB7
    have r1 := run_str HB7.out c7
    have r3 := str_eq (Ent.enc er) l HB7.out.2.1 HBW.out.2.1
    clear hn7 hpb
    by_cases heq : Ent.enc er = l
    · rw [show sameB (Ent.enc er) l = true from by rw [heq]; exact sameB_self l] at r3
      have HEQ := Lib.hid heq
      have HOK := Lib.hid hok
      clear heq hok hc
      generalize str (Ent.enc er) = S1 at *
      generalize str l = S2 at *
      obtain ⟨e0, e1, e2, e3, e4, e5, e6, e7, e8, e9, e10⟩ := L7.out.cellsE
      obtain ⟨z0, z1, z2, z3, z4, z5, z6, z7, z8, z9, z10⟩ := Z7.out.cellsE
      have hfz := Z7.out.free
      go_wp2
      refine ret_E w.heap.size 26 (evs er (.slice none 0 0) (.slice none 0 0)) rfl rfl HEP.out.1 rfl rfl ⟨HEP.out.2.1, .inl ⟨er, _, _, ?_, rfl, HEP.out.2.2.1.mono (by omega), HEP.out.2.2.2.mono (by omega)⟩⟩
      rw [HGET.out, if_pos ⟨HOK.out, HEQ.out⟩]
    · rw [show sameB (Ent.enc er) l = false from sameB_ne heq] at r3
      have HEQ := Lib.hid heq
      clear heq hok hc
      generalize str (Ent.enc er) = S1 at *
      generalize str l = S2 at *
      obtain ⟨z0, z1, z2, z3, z4, z5, z6, z7, z8, z9, z10⟩ := Z7.out.cellsE
      have hfz := Z7.out.free
      go_wp2
      refine ret_E w.heap.size 26 (evs Ent.zero nilV nilV) rfl rfl HZP.out.1 rfl rfl ⟨HZP.out.2, .inr ⟨?_, rfl⟩⟩
      rw [HGET.out, if_neg (fun h => HEQ.out h.2)]
  · have hc : chkN er = 40 := by unfold chkN; rw [if_neg hok]
    rw [hc]
    have HOK := Lib.hid hok
    clear hok hc hn7 r2
    obtain ⟨z0, z1, z2, z3, z4, z5, z6, z7, z8, z9, z10⟩ := Z7.out.cellsE
    have hfz := Z7.out.free
    go_wp2
    refine ret_E w.heap.size 26 (evs Ent.zero nilV nilV) rfl rfl HZP.out.1 rfl rfl ⟨HZP.out.2, .inr ⟨?_, rfl⟩⟩
    rw [HGET.out, if_neg (fun h => HOK.out h.1)]

set_option maxRecDepth 100000 in
set_option maxHeartbeats 2000000 in
theorem rget_1 (a : Option Addr) (n cap : Nat) (l : List Nat) (w : World) (s1 : Ent.St) (h1 : Ent.rnum l 1 (0, false) = (1, s1)) (hB : Bys w a n l) (hn : n ≤ 100000) (hnc : n ≤ cap) (hcm : cap ≤ maxLen) :
    Calls Try.prog 22 #[.slice a n cap] w (RGetPost l w) := by
  have hlen := hB.1
  have hl : l.length ≤ 100000 := by omega
  have hsm := hB.2.1
  obtain ⟨x2, s2, h2⟩ : ∃ x s, Ent.rnum l 8 s1 = (x, s) := ⟨_, _, rfl⟩
  obtain ⟨x3, s3, h3⟩ : ∃ x s, Ent.rnum l 4 s2 = (x, s) := ⟨_, _, rfl⟩
  have by3 : x3 < 4294967296 := by have hq := Ent.rnum_lt l hsm 4 s2; rw [h3] at hq; exact hq
  have her : Ent.rd fpos l = (⟨1, x2, x3, 0, 0, false, 0, 0, 0, [], []⟩ : Entry) := by
    refine (Ent.rd_rest fpos l _ _ _ s1 s2 s3 h1 h2 h3).trans ?_
    show Ent.rest fpos l 1 s3 x2 x3 = _
    unfold Ent.rest
    simp only [Ent.rO_no l 1 _ rfl, Ent.rK_no l 1 _ rfl, Ent.rS_no l 1 _ rfl, Ent.rC_no l 1 _ rfl, Ent.rM_no l 1 _ rfl]
    rfl
  have hbnd : Ent.Bnd (⟨1, x2, x3, 0, 0, false, 0, 0, 0, [], []⟩ : Entry) := by rw [← her]; exact Ent.rd_bnd fpos l hsm
  have HBND := Lib.hid hbnd
  have HER := Lib.hid her
  have hR0 : Rf ((w.alloc (.cells zc 26)).alloc (.cells #[.slice a n cap, .int .i64 0, .bool false] 82)) (w.heap.size + 1) (0, false) l := by
    refine ⟨a, cap, ?_, by rw [hlen]; exact (hB.alloc _).alloc _, ?_, Nat.zero_le _, by omega, hcm⟩
    · rw [hlen]; exact Lies.made2 w _ 82 _
    · intro h0 ad e
      obtain ⟨b, off, e2, hc⟩ := hB.2.2 (by omega)
      have := block_lt_of_cell (hc 0 (by omega))
      rw [e2] at e; injection e with e; subst e; show b < _; simp at this; omega
  have BB0 := Lib.hid (below2 w (.cells zc 26) (.cells #[.slice a n cap, .int .i64 0, .bool false] 82))
  have Z0 := Lib.hid ((Lies.made w 26 zc).alloc (.cells #[.slice a n cap, .int .i64 0, .bool false] 82))
  have cc := rfnum_any (w.heap.size + 1) 1 (0, false) l _ hR0 (by omega) (by omega) hl
  unfold RfnPost at cc
  rw [h1] at cc
  simp only at cc
  rw [show ((1 : Nat) : Int) = 1 from rfl] at cc
  have C1 := Lib.hid cc
  have H2 := Lib.hid h2
  have H3 := Lib.hid h3
  have HB := Lib.hid hB
  have HL := Lib.hid hl
  have HN := Lib.hid hlen
  clear cc hR0 her hbnd hsm hB hl hlen h1 h2 h3
  go_enter Try.func22, Try.ntmps22
  go_wp2_with fail
  with_reducible refine C1.out.mono ?_
  rintro x w1 ⟨rfl, hR1, hg1⟩
  have hz1 : Lies w1 w.heap.size 26 (evs Ent.zero nilV nilV) := Z0.out.grown hg1 (fun e => by injection e; omega)
  have Z1 := Lib.hid hz1
  clear hz1
  have BB1 := Lib.hid (BB0.out.grown hg1 BB0.out.size (fun k hk => by injection hk with hk; omega))
  obtain ⟨q, hq⟩ : ∃ q, w1.heap.size = q := ⟨_, rfl⟩
  have hpq : w.heap.size + 1 < q := by rw [← hq]; exact hR1.lt
  have HR1 := Lib.hid hR1
  clear hR1 hg1 C1 Z0 BB0
  have le1 : Lies (w1.alloc (.cells (zk 1) 26)) q 26 (evs (⟨1, 0, 0, 0, 0, false, 0, 0, 0, [], []⟩ : Entry) nilV nilV) := by rw [← hq]; exact Lies.made w1 26 _
  have LE1s := Lib.hid le1
  have Z1s := Lib.hid (Z1.out.alloc (.cells (zk 1) 26))
  have BB1s := Lib.hid (BB1.out.alloc BB1.out.size (.cells (zk 1) 26))
  have HR1s := Lib.hid (HR1.out.below ((Below.refl _ _).alloc (Nat.le_refl _) (.cells (zk 1) 26)))
  clear le1
  have cc := rfnum_any (w.heap.size + 1) 8 s1 l (w1.alloc (.cells (zk 1) 26)) HR1s.out (by omega) (by omega) HL.out
  unfold RfnPost at cc
  rw [H2.out] at cc
  simp only at cc
  rw [show ((8 : Nat) : Int) = 8 from rfl] at cc
  have C2 := Lib.hid cc
  clear cc
  go_wp2_with fail
  with_reducible refine C2.out.mono ?_
  have HQ := Lib.hid hq
  clear C2 hq
  rintro x w2 ⟨rfl, hR2, hg2⟩
  have LE2 := Lib.hid (LE1s.out.grown hg2 (fun e => by injection e; omega))
  have Z2 := Lib.hid (Z1s.out.grown hg2 (fun e => by injection e; omega))
  have BB2 := Lib.hid (BB1s.out.grown hg2 BB1s.out.size (fun k hk => by injection hk with hk; omega))
  have HR2 := Lib.hid hR2
  clear hR2 hg2 LE1s Z1s BB1s HR1s Z1 BB1 HR1
  have f2 : w2.cell? ⟨q, 1, none⟩ = some (.int .u64 0) := LE2.out.cell 1
  have g2 : w2.frozen? ⟨q, 1, none⟩ = false := LE2.out.free 1
  have k20 : w2.cell? ⟨q, 0, none⟩ = some (.int .i64 1) := LE2.out.cell 0
  have le : Lies (w2.setCell ⟨q, 1, none⟩ (.int .u64 ((x2 : Nat) : Int))) q 26 (evs (⟨1, x2, 0, 0, 0, false, 0, 0, 0, [], []⟩ : Entry) nilV nilV) := LE2.out.put 1 _
  have LE2s := Lib.hid le
  clear le
  have Z2s := Lib.hid (Z2.out.other (a := ⟨q, 1, none⟩) (by show w.heap.size ≠ q; omega) (.int .u64 ((x2 : Nat) : Int)))
  have HR2s := Lib.hid (HR2.out.setq hpq 1 (.int .u64 ((x2 : Nat) : Int)))
  have BB2s := Lib.hid (BB2.out.setCell (p := ⟨q, 1, none⟩) (by show w.heap.size ≤ q; omega) (.int .u64 ((x2 : Nat) : Int)))
  clear LE2 Z2 HR2 BB2
  have cc := rfnum_any (w.heap.size + 1) 4 s2 l (w2.setCell ⟨q, 1, none⟩ (.int .u64 ((x2 : Nat) : Int))) HR2s.out (by omega) (by omega) HL.out
  unfold RfnPost at cc
  rw [H3.out] at cc
  simp only at cc
  rw [show ((4 : Nat) : Int) = 4 from rfl] at cc
  have C3 := Lib.hid cc
  clear cc
  go_wp2_with fail
  with_reducible refine C3.out.mono ?_
  clear C3 f2 g2 k20
  rintro x w3 ⟨rfl, hR3, hg3⟩
  have LE3 := Lib.hid (LE2s.out.grown hg3 (fun e => by injection e; omega))
  have Z3 := Lib.hid (Z2s.out.grown hg3 (fun e => by injection e; omega))
  have BB3 := Lib.hid (BB2s.out.grown hg3 BB2s.out.size (fun k hk => by injection hk with hk; omega))
  have HR3 := Lib.hid hR3
  clear hR3 hg3 LE2s Z2s BB2s HR2s
  have f3 : w3.cell? ⟨q, 2, none⟩ = some (.int .u32 0) := LE3.out.cell 2
  have g3 : w3.frozen? ⟨q, 2, none⟩ = false := LE3.out.free 2
  have k30 : w3.cell? ⟨q, 0, none⟩ = some (.int .i64 1) := LE3.out.cell 0
  have le : Lies (w3.setCell ⟨q, 2, none⟩ (.int .u32 ((x3 : Nat) : Int))) q 26 (evs (⟨1, x2, x3, 0, 0, false, 0, 0, 0, [], []⟩ : Entry) nilV nilV) := LE3.out.put 2 _
  have LE3s := Lib.hid le
  clear le
  have Z3s := Lib.hid (Z3.out.other (a := ⟨q, 2, none⟩) (by show w.heap.size ≠ q; omega) (.int .u32 ((x3 : Nat) : Int)))
  have HR3s := Lib.hid (HR3.out.setq hpq 2 (.int .u32 ((x3 : Nat) : Int)))
  have BB3s := Lib.hid (BB3.out.setCell (p := ⟨q, 2, none⟩) (by show w.heap.size ≤ q; omega) (.int .u32 ((x3 : Nat) : Int)))
  clear LE3 Z3 HR3 BB3
  have hV : EntV (w3.setCell ⟨q, 2, none⟩ (.int .u32 ((x3 : Nat) : Int))) (⟨1, x2, x3, 0, 0, false, 0, 0, 0, [], []⟩ : Entry) none none 0 0 := EntV.nil _ _ rfl rfl HBND.out
  have cp := refPut_any (⟨1, x2, x3, 0, 0, false, 0, 0, 0, [], []⟩ : Entry) none none 0 0 (w3.setCell ⟨q, 2, none⟩ (.int .u32 ((x3 : Nat) : Int))) hV
  obtain ⟨er, hel⟩ : ∃ e, (⟨1, x2, x3, 0, 0, false, 0, 0, 0, [], []⟩ : Entry) = e := ⟨_, rfl⟩
  have cp2 : Calls Try.prog 18 #[.agg #[.int .i64 1, .int .u64 ((x2 : Nat) : Int), .int .u32 ((x3 : Nat) : Int), .int .u32 0, .int .i64 0, .bool false, .int .i64 0, .int .i64 0, .int .u64 0, .slice none 0 0, .slice none 0 0]] (w3.setCell ⟨q, 2, none⟩ (.int .u32 ((x3 : Nat) : Int))) (PutPost er (w3.setCell ⟨q, 2, none⟩ (.int .u32 ((x3 : Nat) : Int)))) := by
    rw [← hel]
    exact cp
  have CPUT := Lib.hid cp2
  have hget : Ent.get fpos l = if Ent.ok er = true ∧ Ent.enc er = l then some er else none := by unfold Ent.get; rw [HER.out, hel]
  have HGET := Lib.hid hget
  have le : Lies (w3.setCell ⟨q, 2, none⟩ (.int .u32 ((x3 : Nat) : Int))) q 26 (evs er (.slice none 0 0) (.slice none 0 0)) := by rw [← hel]; exact LE3s.out
  have L6 := Lib.hid le
  have hk6 : Tx (w3.setCell ⟨q, 2, none⟩ (.int .u32 ((x3 : Nat) : Int))) (q + 1) (.slice none 0 0) er.key := by rw [← hel]; exact Tx.nil _ _
  have hd6 : Tx (w3.setCell ⟨q, 2, none⟩ (.int .u32 ((x3 : Nat) : Int))) (q + 1) (.slice none 0 0) er.data := by rw [← hel]; exact Tx.nil _ _
  have HK6 := Lib.hid hk6
  have HD6 := Lib.hid hd6
  obtain ⟨e0, e1, e2, e3, e4, e5, e6, e7, e8, e9, e10⟩ := LE3s.out.cellsE
  have Z6 := Lib.hid Z3s.out
  have BB6 := Lib.hid BB3s.out
  clear cp cp2 hget le hk6 hd6 hel hV LE3s Z3s BB3s HR3s HER HBND
  go_wp2_with fail
  with_reducible refine CPUT.out.mono ?_
  rintro x w7 ⟨v7, rfl, hO7, hb7⟩
  clear e0 e1 e2 e3 e4 e5 e6 e7 e8 e9 e10 f3 g3 k30
  have Z7 := Lib.hid (Z6.out.below hb7 Z6.out.lt)
  have L7 := Lib.hid (L6.out.below hb7 L6.out.lt)
  have BB7 := Lib.hid (BB6.out.trans (hb7.mono BB6.out.size))
  have HK7 := Lib.hid (HK6.out.below hb7)
  have HD7 := Lib.hid (HD6.out.below hb7)
  obtain ⟨A7, c7, rfl, hB7, _, _, _⟩ := hO7.slice
  have HBW := Lib.hid (HB.out.below BB7.out)
  have HB7 := Lib.hid hB7
  clear hO7 hb7 hB7 Z6 L6 BB6 HK6 HD6 CPUT
  have hzp : Lies (w7.setCells w.heap.size 0 (evs Ent.zero nilV nilV).toList) w.heap.size 26 (evs Ent.zero nilV nilV) ∧ Below w.heap.size w (w7.setCells w.heap.size 0 (evs Ent.zero nilV nilV).toList) := ⟨Z7.out.puts _ rfl, below_puts BB7.out (Nat.le_refl _) _ _⟩
  rw [setCells_zero] at hzp
  have HZP := Lib.hid hzp
  have hep : Lies (w7.setCells w.heap.size 0 (evs er (.slice none 0 0) (.slice none 0 0)).toList) w.heap.size 26 (evs er (.slice none 0 0) (.slice none 0 0)) ∧ Below w.heap.size w (w7.setCells w.heap.size 0 (evs er (.slice none 0 0) (.slice none 0 0)).toList) ∧ Tx (w7.setCells w.heap.size 0 (evs er (.slice none 0 0) (.slice none 0 0)).toList) (q + 1) (.slice none 0 0) er.key ∧ Tx (w7.setCells w.heap.size 0 (evs er (.slice none 0 0) (.slice none 0 0)).toList) (q + 1) (.slice none 0 0) er.data := ⟨Z7.out.puts _ rfl, below_puts BB7.out (Nat.le_refl _) _ _, HK7.out.puts (by omega) _ _, HD7.out.puts (by omega) _ _⟩
  rw [setCells_evs] at hep
  have HEP := Lib.hid hep
  clear hzp hep
  obtain ⟨n7, hn7⟩ : ∃ n, (putB er).length = n := ⟨_, rfl⟩
  rw [hn7] at HB7 ⊢
  have r2 := run_str HBW.out cap
  by_cases hok : Ent.ok er = true
  · have hc : chkN er = 0 := by unfold chkN; rw [if_pos hok]
    have hpb : putB er = Ent.enc er := by unfold putB; rw [if_pos hok]
    rw [hc]
    rw [hpb] at HB7
    have r1 := run_str HB7.out c7
    have r3 := str_eq (Ent.enc er) l HB7.out.2.1 HBW.out.2.1
    clear hn7 hpb
    by_cases heq : Ent.enc er = l
    · rw [show sameB (Ent.enc er) l = true from by rw [heq]; exact sameB_self l] at r3
      have HEQ := Lib.hid heq
      have HOK := Lib.hid hok
      clear heq hok hc
      generalize str (Ent.enc er) = S1 at *
      generalize str l = S2 at *
      obtain ⟨e0, e1, e2, e3, e4, e5, e6, e7, e8, e9, e10⟩ := L7.out.cellsE
      obtain ⟨z0, z1, z2, z3, z4, z5, z6, z7, z8, z9, z10⟩ := Z7.out.cellsE
      have hfz := Z7.out.free
      go_wp2
      refine ret_E w.heap.size 26 (evs er (.slice none 0 0) (.slice none 0 0)) rfl rfl HEP.out.1 rfl rfl ⟨HEP.out.2.1, .inl ⟨er, _, _, ?_, rfl, HEP.out.2.2.1.mono (by omega), HEP.out.2.2.2.mono (by omega)⟩⟩
      rw [HGET.out, if_pos ⟨HOK.out, HEQ.out⟩]
    · rw [show sameB (Ent.enc er) l = false from sameB_ne heq] at r3
      have HEQ := Lib.hid heq
      clear heq hok hc
      generalize str (Ent.enc er) = S1 at *
      generalize str l = S2 at *
      obtain ⟨z0, z1, z2, z3, z4, z5, z6, z7, z8, z9, z10⟩ := Z7.out.cellsE
      have hfz := Z7.out.free
      go_wp2
      refine ret_E w.heap.size 26 (evs Ent.zero nilV nilV) rfl rfl HZP.out.1 rfl rfl ⟨HZP.out.2, .inr ⟨?_, rfl⟩⟩
      rw [HGET.out, if_neg (fun h => HEQ.out h.2)]
  · have hc : chkN er = 40 := by unfold chkN; rw [if_neg hok]
    rw [hc]
    have HOK := Lib.hid hok
    clear hok hc hn7 r2
    obtain ⟨z0, z1, z2, z3, z4, z5, z6, z7, z8, z9, z10⟩ := Z7.out.cellsE
    have hfz := Z7.out.free
    go_wp2
    refine ret_E w.heap.size 26 (evs Ent.zero nilV nilV) rfl rfl HZP.out.1 rfl rfl ⟨HZP.out.2, .inr ⟨?_, rfl⟩⟩
    rw [HGET.out, if_neg (fun h => HOK.out h.1)]

set_option maxRecDepth 100000 in
set_option maxHeartbeats 2000000 in
theorem rget_hi (a : Option Addr) (n cap : Nat) (l : List Nat) (w : World) (s1 : Ent.St) (k1 : Nat) (hk7 : 7 < k1) (h1 : Ent.rnum l 1 (0, false) = (k1, s1)) (hB : Bys w a n l) (hn : n ≤ 100000) (hnc : n ≤ cap) (hcm : cap ≤ maxLen) :
    Calls Try.prog 22 #[.slice a n cap] w (RGetPost l w) := by
  have hlen := hB.1
  have hl : l.length ≤ 100000 := by omega
  have hsm := hB.2.1
  obtain ⟨x2, s2, h2⟩ : ∃ x s, Ent.rnum l 8 s1 = (x, s) := ⟨_, _, rfl⟩
  obtain ⟨x3, s3, h3⟩ : ∃ x s, Ent.rnum l 4 s2 = (x, s) := ⟨_, _, rfl⟩
  have by3 : x3 < 4294967296 := by have hq := Ent.rnum_lt l hsm 4 s2; rw [h3] at hq; exact hq
  have by1 : k1 < 256 := by have hq := Ent.rnum_lt l hsm 1 (0, false); rw [h1] at hq; exact hq
  have g1 : Ent.hasO ((k1 : Nat) : Int) = false := by unfold Ent.hasO; rw [decide_eq_false_iff_not]; omega
  have g2 : Ent.hasT ((k1 : Nat) : Int) = false := by unfold Ent.hasT; rw [decide_eq_false_iff_not]; omega
  have g3 : Ent.hasS ((k1 : Nat) : Int) = false := by unfold Ent.hasS; rw [decide_eq_false_iff_not]; omega
  have g4 : Ent.codes ((k1 : Nat) : Int) = 0 := by unfold Ent.codes; rw [if_neg (by omega), if_neg (by omega)]
  have g5 : Ent.hasM ((k1 : Nat) : Int) = false := by unfold Ent.hasM; rw [decide_eq_false_iff_not]; omega
  have her : Ent.rd fpos l = (⟨((k1 : Nat) : Int), x2, x3, 0, 0, false, 0, 0, 0, [], []⟩ : Entry) := by
    refine (Ent.rd_rest fpos l _ _ _ s1 s2 s3 h1 h2 h3).trans ?_
    show Ent.rest fpos l ((k1 : Nat) : Int) s3 x2 x3 = _
    unfold Ent.rest
    simp only [Ent.rO_no l ((k1 : Nat) : Int) _ g1, Ent.rK_no l ((k1 : Nat) : Int) _ g2, Ent.rS_no l ((k1 : Nat) : Int) _ g3, Ent.rC_no l ((k1 : Nat) : Int) _ g4, Ent.rM_no l ((k1 : Nat) : Int) _ g5]
    rfl
  have hbnd : Ent.Bnd (⟨((k1 : Nat) : Int), x2, x3, 0, 0, false, 0, 0, 0, [], []⟩ : Entry) := by rw [← her]; exact Ent.rd_bnd fpos l hsm
  have HBND := Lib.hid hbnd
  have HER := Lib.hid her
  have hR0 : Rf ((w.alloc (.cells zc 26)).alloc (.cells #[.slice a n cap, .int .i64 0, .bool false] 82)) (w.heap.size + 1) (0, false) l := by
    refine ⟨a, cap, ?_, by rw [hlen]; exact (hB.alloc _).alloc _, ?_, Nat.zero_le _, by omega, hcm⟩
    · rw [hlen]; exact Lies.made2 w _ 82 _
    · intro h0 ad e
      obtain ⟨b, off, e2, hc⟩ := hB.2.2 (by omega)
      have := block_lt_of_cell (hc 0 (by omega))
      rw [e2] at e; injection e with e; subst e; show b < _; simp at this; omega
  have BB0 := Lib.hid (below2 w (.cells zc 26) (.cells #[.slice a n cap, .int .i64 0, .bool false] 82))
  have Z0 := Lib.hid ((Lies.made w 26 zc).alloc (.cells #[.slice a n cap, .int .i64 0, .bool false] 82))
  have cc := rfnum_any (w.heap.size + 1) 1 (0, false) l _ hR0 (by omega) (by omega) hl
  unfold RfnPost at cc
  rw [h1] at cc
  simp only at cc
  rw [show ((1 : Nat) : Int) = 1 from rfl] at cc
  have C1 := Lib.hid cc
  have H2 := Lib.hid h2
  have H3 := Lib.hid h3
  have HB := Lib.hid hB
  have HL := Lib.hid hl
  have HN := Lib.hid hlen
  clear cc hR0 her hbnd hsm hB hl hlen h1 h2 h3 g1 g2 g3 g4 g5
  have bk2 : (((k1 : Nat) : Int) == 2) = false := by rw [beq_eq_false_iff_ne]; omega
  have bk3 : (((k1 : Nat) : Int) == 3) = false := by rw [beq_eq_false_iff_ne]; omega
  have bk4 : (((k1 : Nat) : Int) == 4) = false := by rw [beq_eq_false_iff_ne]; omega
  have bk7 : (((k1 : Nat) : Int) == 7) = false := by rw [beq_eq_false_iff_ne]; omega
  have hi7 : 7 < ((k1 : Nat) : Int) := by omega
  go_enter Try.func22, Try.ntmps22
  go_wp2_with fail
  with_reducible refine C1.out.mono ?_
  rintro x w1 ⟨rfl, hR1, hg1⟩
  have hz1 : Lies w1 w.heap.size 26 (evs Ent.zero nilV nilV) := Z0.out.grown hg1 (fun e => by injection e; omega)
  have Z1 := Lib.hid hz1
  clear hz1
  have BB1 := Lib.hid (BB0.out.grown hg1 BB0.out.size (fun k hk => by injection hk with hk; omega))
  obtain ⟨q, hq⟩ : ∃ q, w1.heap.size = q := ⟨_, rfl⟩
  have hpq : w.heap.size + 1 < q := by rw [← hq]; exact hR1.lt
  have HR1 := Lib.hid hR1
  clear hR1 hg1 C1 Z0 BB0
  have le1 : Lies (w1.alloc (.cells (zk ((k1 : Nat) : Int)) 26)) q 26 (evs (⟨((k1 : Nat) : Int), 0, 0, 0, 0, false, 0, 0, 0, [], []⟩ : Entry) nilV nilV) := by rw [← hq]; exact Lies.made w1 26 _
  have LE1s := Lib.hid le1
  have Z1s := Lib.hid (Z1.out.alloc (.cells (zk ((k1 : Nat) : Int)) 26))
  have BB1s := Lib.hid (BB1.out.alloc BB1.out.size (.cells (zk ((k1 : Nat) : Int)) 26))
  have HR1s := Lib.hid (HR1.out.below ((Below.refl _ _).alloc (Nat.le_refl _) (.cells (zk ((k1 : Nat) : Int)) 26)))
  clear le1
  have cc := rfnum_any (w.heap.size + 1) 8 s1 l (w1.alloc (.cells (zk ((k1 : Nat) : Int)) 26)) HR1s.out (by omega) (by omega) HL.out
  unfold RfnPost at cc
  rw [H2.out] at cc
  simp only at cc
  rw [show ((8 : Nat) : Int) = 8 from rfl] at cc
  have C2 := Lib.hid cc
  clear cc
  go_wp2_with fail
  with_reducible refine C2.out.mono ?_
  have HQ := Lib.hid hq
  clear C2 hq
  rintro x w2 ⟨rfl, hR2, hg2⟩
  have LE2 := Lib.hid (LE1s.out.grown hg2 (fun e => by injection e; omega))
  have Z2 := Lib.hid (Z1s.out.grown hg2 (fun e => by injection e; omega))
  have BB2 := Lib.hid (BB1s.out.grown hg2 BB1s.out.size (fun k hk => by injection hk with hk; omega))
  have HR2 := Lib.hid hR2
  clear hR2 hg2 LE1s Z1s BB1s HR1s Z1 BB1 HR1
  have f2 : w2.cell? ⟨q, 1, none⟩ = some (.int .u64 0) := LE2.out.cell 1
  have g2 : w2.frozen? ⟨q, 1, none⟩ = false := LE2.out.free 1
  have k20 : w2.cell? ⟨q, 0, none⟩ = some (.int .i64 ((k1 : Nat) : Int)) := LE2.out.cell 0
  have le : Lies (w2.setCell ⟨q, 1, none⟩ (.int .u64 ((x2 : Nat) : Int))) q 26 (evs (⟨((k1 : Nat) : Int), x2, 0, 0, 0, false, 0, 0, 0, [], []⟩ : Entry) nilV nilV) := LE2.out.put 1 _
  have LE2s := Lib.hid le
  clear le
  have Z2s := Lib.hid (Z2.out.other (a := ⟨q, 1, none⟩) (by show w.heap.size ≠ q; omega) (.int .u64 ((x2 : Nat) : Int)))
  have HR2s := Lib.hid (HR2.out.setq hpq 1 (.int .u64 ((x2 : Nat) : Int)))
  have BB2s := Lib.hid (BB2.out.setCell (p := ⟨q, 1, none⟩) (by show w.heap.size ≤ q; omega) (.int .u64 ((x2 : Nat) : Int)))
  clear LE2 Z2 HR2 BB2
  have cc := rfnum_any (w.heap.size + 1) 4 s2 l (w2.setCell ⟨q, 1, none⟩ (.int .u64 ((x2 : Nat) : Int))) HR2s.out (by omega) (by omega) HL.out
  unfold RfnPost at cc
  rw [H3.out] at cc
  simp only at cc
  rw [show ((4 : Nat) : Int) = 4 from rfl] at cc
  have C3 := Lib.hid cc
  clear cc
  go_wp2_with fail
  with_reducible refine C3.out.mono ?_
  clear C3 f2 g2 k20
  rintro x w3 ⟨rfl, hR3, hg3⟩
  have LE3 := Lib.hid (LE2s.out.grown hg3 (fun e => by injection e; omega))
  have Z3 := Lib.hid (Z2s.out.grown hg3 (fun e => by injection e; omega))
  have BB3 := Lib.hid (BB2s.out.grown hg3 BB2s.out.size (fun k hk => by injection hk with hk; omega))
  have HR3 := Lib.hid hR3
  clear hR3 hg3 LE2s Z2s BB2s HR2s
  have f3 : w3.cell? ⟨q, 2, none⟩ = some (.int .u32 0) := LE3.out.cell 2
  have g3 : w3.frozen? ⟨q, 2, none⟩ = false := LE3.out.free 2
  have k30 : w3.cell? ⟨q, 0, none⟩ = some (.int .i64 ((k1 : Nat) : Int)) := LE3.out.cell 0
  have le : Lies (w3.setCell ⟨q, 2, none⟩ (.int .u32 ((x3 : Nat) : Int))) q 26 (evs (⟨((k1 : Nat) : Int), x2, x3, 0, 0, false, 0, 0, 0, [], []⟩ : Entry) nilV nilV) := LE3.out.put 2 _
  have LE3s := Lib.hid le
  clear le
  have Z3s := Lib.hid (Z3.out.other (a := ⟨q, 2, none⟩) (by show w.heap.size ≠ q; omega) (.int .u32 ((x3 : Nat) : Int)))
  have HR3s := Lib.hid (HR3.out.setq hpq 2 (.int .u32 ((x3 : Nat) : Int)))
  have BB3s := Lib.hid (BB3.out.setCell (p := ⟨q, 2, none⟩) (by show w.heap.size ≤ q; omega) (.int .u32 ((x3 : Nat) : Int)))
  clear LE3 Z3 HR3 BB3
  have hV : EntV (w3.setCell ⟨q, 2, none⟩ (.int .u32 ((x3 : Nat) : Int))) (⟨((k1 : Nat) : Int), x2, x3, 0, 0, false, 0, 0, 0, [], []⟩ : Entry) none none 0 0 := EntV.nil _ _ rfl rfl HBND.out
  have cp := refPut_any (⟨((k1 : Nat) : Int), x2, x3, 0, 0, false, 0, 0, 0, [], []⟩ : Entry) none none 0 0 (w3.setCell ⟨q, 2, none⟩ (.int .u32 ((x3 : Nat) : Int))) hV
  obtain ⟨er, hel⟩ : ∃ e, (⟨((k1 : Nat) : Int), x2, x3, 0, 0, false, 0, 0, 0, [], []⟩ : Entry) = e := ⟨_, rfl⟩
  have cp2 : Calls Try.prog 18 #[.agg #[.int .i64 ((k1 : Nat) : Int), .int .u64 ((x2 : Nat) : Int), .int .u32 ((x3 : Nat) : Int), .int .u32 0, .int .i64 0, .bool false, .int .i64 0, .int .i64 0, .int .u64 0, .slice none 0 0, .slice none 0 0]] (w3.setCell ⟨q, 2, none⟩ (.int .u32 ((x3 : Nat) : Int))) (PutPost er (w3.setCell ⟨q, 2, none⟩ (.int .u32 ((x3 : Nat) : Int)))) := by
    rw [← hel]
    exact cp
  have CPUT := Lib.hid cp2
  have hget : Ent.get fpos l = if Ent.ok er = true ∧ Ent.enc er = l then some er else none := by unfold Ent.get; rw [HER.out, hel]
  have HGET := Lib.hid hget
  have le : Lies (w3.setCell ⟨q, 2, none⟩ (.int .u32 ((x3 : Nat) : Int))) q 26 (evs er (.slice none 0 0) (.slice none 0 0)) := by rw [← hel]; exact LE3s.out
  have L6 := Lib.hid le
  have hk6 : Tx (w3.setCell ⟨q, 2, none⟩ (.int .u32 ((x3 : Nat) : Int))) (q + 1) (.slice none 0 0) er.key := by rw [← hel]; exact Tx.nil _ _
  have hd6 : Tx (w3.setCell ⟨q, 2, none⟩ (.int .u32 ((x3 : Nat) : Int))) (q + 1) (.slice none 0 0) er.data := by rw [← hel]; exact Tx.nil _ _
  have HK6 := Lib.hid hk6
  have HD6 := Lib.hid hd6
  obtain ⟨e0, e1, e2, e3, e4, e5, e6, e7, e8, e9, e10⟩ := LE3s.out.cellsE
  have Z6 := Lib.hid Z3s.out
  have BB6 := Lib.hid BB3s.out
  clear cp cp2 hget le hk6 hd6 hel hV LE3s Z3s BB3s HR3s HER HBND
  go_wp2_with fail
  with_reducible refine CPUT.out.mono ?_
  rintro x w7 ⟨v7, rfl, hO7, hb7⟩
  clear e0 e1 e2 e3 e4 e5 e6 e7 e8 e9 e10 f3 g3 k30
  have Z7 := Lib.hid (Z6.out.below hb7 Z6.out.lt)
  have L7 := Lib.hid (L6.out.below hb7 L6.out.lt)
  have BB7 := Lib.hid (BB6.out.trans (hb7.mono BB6.out.size))
  have HK7 := Lib.hid (HK6.out.below hb7)
  have HD7 := Lib.hid (HD6.out.below hb7)
  obtain ⟨A7, c7, rfl, hB7, _, _, _⟩ := hO7.slice
  have HBW := Lib.hid (HB.out.below BB7.out)
  have HB7 := Lib.hid hB7
  clear hO7 hb7 hB7 Z6 L6 BB6 HK6 HD6 CPUT
  have hzp : Lies (w7.setCells w.heap.size 0 (evs Ent.zero nilV nilV).toList) w.heap.size 26 (evs Ent.zero nilV nilV) ∧ Below w.heap.size w (w7.setCells w.heap.size 0 (evs Ent.zero nilV nilV).toList) := ⟨Z7.out.puts _ rfl, below_puts BB7.out (Nat.le_refl _) _ _⟩
  rw [setCells_zero] at hzp
  have HZP := Lib.hid hzp
  have hep : Lies (w7.setCells w.heap.size 0 (evs er (.slice none 0 0) (.slice none 0 0)).toList) w.heap.size 26 (evs er (.slice none 0 0) (.slice none 0 0)) ∧ Below w.heap.size w (w7.setCells w.heap.size 0 (evs er (.slice none 0 0) (.slice none 0 0)).toList) ∧ Tx (w7.setCells w.heap.size 0 (evs er (.slice none 0 0) (.slice none 0 0)).toList) (q + 1) (.slice none 0 0) er.key ∧ Tx (w7.setCells w.heap.size 0 (evs er (.slice none 0 0) (.slice none 0 0)).toList) (q + 1) (.slice none 0 0) er.data := ⟨Z7.out.puts _ rfl, below_puts BB7.out (Nat.le_refl _) _ _, HK7.out.puts (by omega) _ _, HD7.out.puts (by omega) _ _⟩
  rw [setCells_evs] at hep
  have HEP := Lib.hid hep
  clear hzp hep
  obtain ⟨n7, hn7⟩ : ∃ n, (putB er).length = n := ⟨_, rfl⟩
  rw [hn7] at HB7 ⊢
  have r2 := run_str HBW.out cap
  by_cases hok : Ent.ok er = true
  · have hc : chkN er = 0 := by unfold chkN; rw [if_pos hok]
    have hpb : putB er = Ent.enc er := by unfold putB; rw [if_pos hok]
    rw [hc]
    rw [hpb] at HB7
    have r1 := run_str HB7.out c7
    have r3 := str_eq (Ent.enc er) l HB7.out.2.1 HBW.out.2.1
    clear hn7 hpb
    by_cases heq : Ent.enc er = l
    · rw [show sameB (Ent.enc er) l = true from by rw [heq]; exact sameB_self l] at r3
      have HEQ := Lib.hid heq
      have HOK := Lib.hid hok
      clear heq hok hc
      generalize str (Ent.enc er) = S1 at *
      generalize str l = S2 at *
      obtain ⟨e0, e1, e2, e3, e4, e5, e6, e7, e8, e9, e10⟩ := L7.out.cellsE
      obtain ⟨z0, z1, z2, z3, z4, z5, z6, z7, z8, z9, z10⟩ := Z7.out.cellsE
      have hfz := Z7.out.free
      go_wp2
      refine ret_E w.heap.size 26 (evs er (.slice none 0 0) (.slice none 0 0)) rfl rfl HEP.out.1 rfl rfl ⟨HEP.out.2.1, .inl ⟨er, _, _, ?_, rfl, HEP.out.2.2.1.mono (by omega), HEP.out.2.2.2.mono (by omega)⟩⟩
      rw [HGET.out, if_pos ⟨HOK.out, HEQ.out⟩]
    · rw [show sameB (Ent.enc er) l = false from sameB_ne heq] at r3
      have HEQ := Lib.hid heq
      clear heq hok hc
      generalize str (Ent.enc er) = S1 at *
      generalize str l = S2 at *
      obtain ⟨z0, z1, z2, z3, z4, z5, z6, z7, z8, z9, z10⟩ := Z7.out.cellsE
      have hfz := Z7.out.free
      go_wp2
      refine ret_E w.heap.size 26 (evs Ent.zero nilV nilV) rfl rfl HZP.out.1 rfl rfl ⟨HZP.out.2, .inr ⟨?_, rfl⟩⟩
      rw [HGET.out, if_neg (fun h => HEQ.out h.2)]
  · have hc : chkN er = 40 := by unfold chkN; rw [if_neg hok]
    rw [hc]
    have HOK := Lib.hid hok
    clear hok hc hn7 r2
    obtain ⟨z0, z1, z2, z3, z4, z5, z6, z7, z8, z9, z10⟩ := Z7.out.cellsE
    have hfz := Z7.out.free
    go_wp2
    refine ret_E w.heap.size 26 (evs Ent.zero nilV nilV) rfl rfl HZP.out.1 rfl rfl ⟨HZP.out.2, .inr ⟨?_, rfl⟩⟩
    rw [HGET.out, if_neg (fun h => HOK.out h.1)]

end Go.Proofs.Ytccpmalefdnhdaa
