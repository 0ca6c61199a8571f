/-
  The contract of Get.
-/
import Derived.Test.YtfcfejmammohpaaReadF
import Derived.Test.YtfcfejmammohpaaPutF
import Derived.Test.YtfcfejmammohpaaNGet
import Derived.Test.YtfcfejmammohpaaSee
import Derived.Test.YtfcfejmammohpaaRegLaw
import Derived.Deep.RegionHeld3
namespace Go.Proofs.Ytfcfejmammohpaa
open Go.RowKit
set_option maxRecDepth 100000
set_option linter.unusedVariables false
set_option linter.unusedSimpArgs false

theorem Rd.grownK {w w3 w' : World} {B p : Nat} {s : Ent.St} {l : List Nat} {v : Value} {n : Nat} {X : Nat → Kx} (h : Rd 135 w p s l) (hp : p < B) (hr : OwnK w B v n X) (hb : Below w.heap.size w w3) (hg : w3.grownBy w' v.ownBlock) : Rd 135 w' p s l := by
  have h3 := h.below hb
  obtain ⟨A, c, hL, hB, h4, h5⟩ := h3
  refine ⟨A, c, hL.grown hg ((hr.belowT hb).ne hL (by decide)), ?_, h4, h5⟩
  obtain ⟨q1, q2, q3⟩ := hB
  refine ⟨q1, q2, fun h0 => ?_⟩
  obtain ⟨b, off, e, hc⟩ := q3 h0
  subst e
  refine ⟨b, off, rfl, fun i hi => ?_⟩
  have hcell := hc i hi
  have hb2 := hg.block b (block_lt_of_cell hcell) (fun e => by have := (hr.belowT hb).block b e.symm; have := h4 _ rfl; dsimp only at *; omega)
  rw [← hcell]
  unfold World.cell?
  rw [hb2]
theorem NF.put1 {w : World} {B : Nat} {v : Value} {n : Nat} {X : Nat → Kx} {g : Nat} {cs : Array Value} (h : NF w B v n X) (hL : Lies w g 25 cs) (u : Value) : NF (w.setCell ⟨g, 1, none⟩ u) B v n X :=
  ⟨h.row.same (fun k hk => heap_setCell_other w ⟨g, 1, none⟩ k u (fun e => h.row.ne hL (by decide) (show some g = v.ownBlock by have e' : k = g := e; rw [← e']; exact hk.symm))), fun i hi => (h.a i hi).lies_put hL (by decide) 1 u, fun i hi => (h.r i hi).lies_put hL (by decide) 1 u, h.b, h.da, h.dr⟩
/-- The fence of bytes, or none. -/
noncomputable def getF (f : Nat → Bool) (l : List Nat) : Fc := @ite _ (isF f l) (Classical.propDecidable _) ⟨rEp l, rN l, rdE f l (rS l)⟩ fz
noncomputable def getE (f : Nat → Bool) (l : List Nat) : Nat := @ite _ (isF f l) (Classical.propDecidable _) 0 82
theorem getF_yes {f : Nat → Bool} {l : List Nat} (h : isF f l) : getF f l = ⟨rEp l, rN l, rdE f l (rS l)⟩ ∧ getE f l = 0 := by
  unfold getF getE
  exact ⟨@if_pos _ (Classical.propDecidable _) h _ _ _, @if_pos _ (Classical.propDecidable _) h _ _ _⟩
theorem getF_no {f : Nat → Bool} {l : List Nat} (h : ¬ isF f l) : getF f l = fz ∧ getE f l = 82 := by
  unfold getF getE
  exact ⟨@if_neg _ (Classical.propDecidable _) h _ _ _, @if_neg _ (Classical.propDecidable _) h _ _ _⟩
theorem NF.grownRd {w w' : World} {B p : Nat} {v : Value} {n : Nat} {X : Nat → Kx} {cs : Array Value} (h : NF w B v n X) (hp : Lies w p 135 cs) (hg : w.grownBy w' (some p)) : NF w' B v n X :=
  ⟨h.row.same (fun k hk => hg.block k (h.row.blockLt k hk) (fun e => h.row.ne hp (by decide) (e.symm.trans hk.symm))), fun i hi => (h.a i hi).grownOther hg (fun g e1 e2 => (h.a i hi).ne hp (by decide) (e2.trans e1.symm)), fun i hi => (h.r i hi).grownOther hg (fun g e1 e2 => (h.r i hi).ne hp (by decide) (e2.trans e1.symm)), h.b, h.da, h.dr⟩
/-- One more. -/
theorem NF.snoc {w w' : World} {B B' : Nat} {v v' : Value} {n : Nat} {X : Nat → Kx} {y : Kx} (h : NF w B v n X) (hB : B ≤ B') (hlow : ∀ i, i < n → (∀ g, (X i).K.ownBlock = some g → g < B') ∧ (∀ g, (X i).D.ownBlock = some g → g < B')) (ya : Own w B' y.K y.k.a) (yr : Own w B' y.D y.k.r) (yb : y.k.o < 4294967296 ∧ in64 y.k.s ∧ in64 y.k.c)
    (ho : OwnK w' B v' (n + 1) (fun i => if i = n then y else X i)) (hg : w.grownBy w' v.ownBlock) : NF w' B v' (n + 1) (fun i => if i = n then y else X i) := by
  have cs {P : Kx → Prop} (h1 : ∀ i, i < n → P (X i)) (h2 : P y) : ∀ i, i < n + 1 → P ((fun i => if i = n then y else X i) i) := fun i hi => by
    show P (if i = n then y else X i)
    by_cases e : i = n
    · rw [if_pos e]; exact h2
    · rw [if_neg e]; exact h1 i (by omega)
  refine ⟨ho, cs (P := fun x => Own w' B x.K x.k.a) (fun i hi => (h.a i hi).grownK h.row hg) ((ya.mono hB).grownK h.row hg), cs (P := fun x => Own w' B x.D x.k.r) (fun i hi => (h.r i hi).grownK h.row hg) ((yr.mono hB).grownK h.row hg), cs (P := fun x => x.k.o < 4294967296 ∧ in64 x.k.s ∧ in64 x.k.c) h.b yb, ?_, ?_⟩
  · intro i j hi hj g
    show (if j = n then y else X j).K.ownBlock = some g → (if i = n then y else X i).K.ownBlock ≠ some g
    rw [if_neg (show ¬ j = n by omega)]
    by_cases e : i = n
    · rw [if_pos e]; intro e1 e2; have := (hlow j (by omega)).1 g e1; have := ya.block g e2; omega
    · rw [if_neg e]; exact h.da i j (by omega) hj g
  · intro i j hi hj g
    show (if j = n then y else X j).D.ownBlock = some g → (if i = n then y else X i).D.ownBlock ≠ some g
    rw [if_neg (show ¬ j = n by omega)]
    by_cases e : i = n
    · rw [if_pos e]; intro e1 e2; have := (hlow j (by omega)).2 g e1; have := yr.block g e2; omega
    · rw [if_neg e]; exact h.dr i j (by omega) hj g
theorem rdK_b (f : Nat → Bool) (l : List Nat) (hl : ∀ c ∈ l, c < 256) (s : Ent.St) : (rdK f l s).1.o < 4294967296 ∧ in64 (rdK f l s).1.s ∧ in64 (rdK f l s).1.c := by
  have h1 := Ent.rnum_lt l hl 1 (Ent.rnum l 4 s).2
  have h2 := Ent.rnum_lt l hl 1 (Ent.rnum l 1 (Ent.rnum l 1 (Ent.rnum l 4 s).2).2).2
  refine ⟨rdK_o f l hl s, ?_, ?_⟩
  · show in64 ((Ent.rnum l 1 (Ent.rnum l 4 s).2).1 : Nat); unfold in64; omega
  · show in64 ((Ent.rnum l 1 (Ent.rnum l 1 (Ent.rnum l 1 (Ent.rnum l 4 s).2).2).2).1 : Nat); unfold in64; omega
def GtR (w : World) (p gf gr ep n : Nat) (l : List Nat) (s : Ent.St) (i : Value) (wr : World) : Prop := ∃ (j : Nat) (A : Option Addr) (c : Nat) (X : Nat → Kx), j ≤ n ∧ i = .int .u8 (j : Int) ∧ Rd 135 wr p (rdSt one l s j) l ∧ Lies wr gf 25 #[.int .u32 (ep : Int), .slice A j c] ∧ NF wr (p + 1) (.slice A j c) j X ∧ (∀ i, i < j → (X i).k = rdE one l s i) ∧ Lies wr gr 25 #[.int .u32 0, .slice none 0 0] ∧ Below w.heap.size w wr
set_option maxHeartbeats 16000000 in
theorem get_any (A0 : Option Addr) (n0 c0 : Nat) (l : List Nat) (w : World) (hB : Bys w A0 n0 l) (hn0 : n0 ≤ 190000) : Calls Try.prog 34 #[.slice A0 n0 c0] w (FencePost w (getE one l) (getF one l)) := by
  have hll : l.length = n0 := hB.1
  have hsm := hB.2.1
  have HSM := Lib.hid hsm
  have hl2 : l.length ≤ 200000 := by omega
  have LR0 := Lib.hid (Lies.made w 25 #[.int .u32 0, .slice none 0 0])
  have BB0 := Lib.hid (below1 w (.cells #[.int .u32 0, .slice none 0 0] 25))
  have CN := Lib.hid (fun W (h : Bys W A0 n0 l) => newReader_any A0 n0 c0 l W h (by omega))
  unfold NrPost at CN
  have HB0 := Lib.hid (hB.below BB0.out)
  have HB5 := Lib.hid (fun W (hb : Below w.heap.size w W) => hB.below hb)
  have C1 := Lib.hid (fun p W h => ru32_any p (0, false) l W h hl2)
  have C2 := Lib.hid (fun p W h => ru8_any p (Ent.rnum l 4 (0, false)).2 l W h hl2)
  unfold Ru32Post at C1
  unfold Ru8Post at C2
  have HEP : Hid (rEp l < 4294967296) := Lib.hid (by have := Ent.rnum_lt l hsm 4 (0, false); show (Ent.rnum l 4 (0, false)).1 < _; omega)
  have HNL : Hid (rN l < 256) := Lib.hid (by have := Ent.rnum_lt l hsm 1 (Ent.rnum l 4 (0, false)).2; show (Ent.rnum l 1 (Ent.rnum l 4 (0, false)).2).1 < _; omega)
  have HYES := Lib.hid (fun h => getF_yes (f := one) (l := l) h)
  have HNOT := Lib.hid (fun h => getF_no (f := one) (l := l) h)
  have HIS : Hid (isF one l ↔ (okB (rN l) (rdE one l (rS l)) = true ∧ putS (rEp l) (rN l) (rdE one l (rS l)) = l)) := Lib.hid Iff.rfl
  generalize hE : rEp l = ep at *
  generalize hN : rN l = n at *
  generalize hS : rS l = s2 at *
  unfold rEp at hE
  unfold rN at hN
  unfold rS at hS
  rw [hE] at C1
  obtain ⟨s1, hs1⟩ : ∃ q, (Ent.rnum l 4 (0, false)).2 = q := ⟨_, rfl⟩
  rw [hs1] at C1 C2 hN hS
  rw [hN, hS] at C2
  clear hE hN hS hs1 hB hsm
  generalize getF one l = gF at *
  generalize getE one l = gE at *
  go_enter Try.func34, Try.ntmps34
  go_wp2_with fail
  with_reducible refine (CN.out _ HB0.out).mono ?_
  rintro x w1 ⟨p, rfl, hr, hb, hpp⟩
  have RD1 := Lib.hid hr
  have LR1 := Lib.hid (LR0.out.below hb LR0.out.lt)
  have BB1 := Lib.hid (BB0.out.trans (hb.mono BB0.out.size))
  have HPP : Hid (w.heap.size < p) := Lib.hid (Nat.lt_of_lt_of_le LR0.out.lt hpp)
  clear hr hb hpp CN LR0 BB0 HB0
  go_wp2_with fail
  with_reducible refine (C1.out p _ RD1.out).mono ?_
  rintro x w2 ⟨rfl, hr, hg⟩
  have LR2 := Lib.hid (LR1.out.grown hg (fun e => by have := HPP.out; injection e; omega))
  have BB2 := Lib.hid (BB1.out.grown hg BB1.out.size (fun k hk => by have := HPP.out; injection hk; omega))
  have RD2 := Lib.hid (hr.below (below1 w2 (.cells #[.int .u32 (ep : Int), .slice none 0 0] 25)))
  have LF2 := Lib.hid (Lies.made w2 25 #[.int .u32 (ep : Int), .slice none 0 0])
  have LR2b := Lib.hid (LR2.out.alloc (.cells #[.int .u32 (ep : Int), .slice none 0 0] 25))
  have BB2b := Lib.hid (BB2.out.alloc BB2.out.size (.cells #[.int .u32 (ep : Int), .slice none 0 0] 25))
  have HPF : Hid (p < w2.heap.size) := Lib.hid hr.lt
  clear hr hg LR1 BB1 RD1 C1
  go_wp2_with fail
  with_reducible refine (C2.out p _ RD2.out).mono ?_
  rintro x w3 ⟨rfl, hr, hg⟩
  have LR3 := Lib.hid (LR2b.out.grown hg (fun e => by have := HPP.out; injection e; omega))
  have BB3 := Lib.hid (BB2b.out.grown hg BB2b.out.size (fun k hk => by have := HPP.out; injection hk; omega))
  have LF3 := Lib.hid (LF2.out.grown hg (fun e => by have := HPF.out; injection e; omega))
  have RD3 := Lib.hid hr
  clear hr hg LR2 BB2 LR2b BB2b LF2 RD2 C2
  obtain ⟨gf, hgf⟩ : ∃ g, g = w2.heap.size := ⟨_, rfl⟩
  obtain ⟨gr, hgr⟩ : ∃ g, g = w.heap.size := ⟨_, rfl⟩
  go_wp2_with fail
  rw [← hgf, ← hgr]
  rw [← hgf] at LF3 HPF
  rw [← hgr] at LR3 HPP
  have HGR := Lib.hid hgr
  clear hgf hgr
  have hn255 : n < 256 := HNL.out
  go_loopw [15] (GtR w p gf gr ep n l s2) (fun i _ => n - (intOf i).toNat)
  case atStart => exact ⟨0, none, 0, fun _ => ⟨kz, .slice none 0 0, .slice none 0 0⟩, by omega, rfl, RD3.out, LF3.out, NF.nil _ _ _, (fun i hi => by omega), LR3.out, BB3.out⟩
  case round =>
    clear RD3 LF3 LR3 BB3
    obtain ⟨j, A, c, X, hj, rfl, hrd, hlf, hnf, hx, hlr, hbb⟩ := hrel
    have RD := Lib.hid hrd
    have LF := Lib.hid hlf
    have HNF := Lib.hid hnf
    have HX := Lib.hid hx
    have LR := Lib.hid hlr
    have Q := Lib.hid hbb
    clear hrd hlf hnf hx hlr hbb
    by_cases hlt : j < n
    · have dj : decide ((j : Int) < (n : Int)) = true := by rw [decide_eq_true_iff]; omega
      have djb : decide (j < n) = true := decide_eq_true hlt
      have CR := Lib.hid (fun W h => read_any p (rdSt one l s2 j) l W h hl2)
      unfold ReadK at CR
      have hyb := rdK_b one l HSM.out (rdSt one l s2 j)
      have HKJ : Hid ((rdK one l (rdSt one l s2 j)).1 = rdE one l s2 j ∧ (rdK one l (rdSt one l s2 j)).2 = rdSt one l s2 (j + 1)) := Lib.hid ⟨rfl, rfl⟩
      rw [HKJ.out.1] at hyb
      rw [HKJ.out.1, HKJ.out.2] at CR
      have HYB := Lib.hid hyb
      clear hyb
      have HBR : Hid (p + 1 ≤ wr.heap.size) := Lib.hid RD.out.lt
      go_wp2_with fail
      clear dj djb
      refine wp_region_noPanic ?_
      refine wp_region_held_drew (S := fun _ => True) (by kernel_rfl) trivial (fun hH0 => ?_)
      refine any_take 0 17 ?vg1x0 rfl rfl (by kernel_rfl) (by kernel_rfl) (by kernel_rfl) (fun _ _ _ h => h) (by rfl) ?hyg1x0 hH0 ?restg1x0
      case hyg1x0 => ((intro W hSw); go_simp; (try with_reducible rfl))
      try simp only [Act.put, List.setIfInBounds_toArray, List.set_cons_zero, List.set_cons_succ]
      refine any_take 2 19 ?vg1x2 rfl rfl (by kernel_rfl) (by kernel_rfl) (by kernel_rfl) (fun _ _ _ h => h) (by rfl) ?hyg1x2 hH0 ?restg1x2
      case hyg1x2 => ((intro W hSw); go_simp; (try with_reducible rfl))
      try simp only [Act.put, List.setIfInBounds_toArray, List.set_cons_zero, List.set_cons_succ]
      refine wpAnyH_ready (rs := [1, 3]) (by kernel_rfl) (by simp) ?_
      refine AllReadyH.cons rfl (fun K hK => ?_) (AllReadyH.cons rfl (fun K hK => ?_) AllReadyH.nil)
      · obtain ⟨t0, t1⟩ := LF.out.cells2
        go_simp
        refine hK.out _ _ trivial (fun hH1 => ?_)
        clear hK K hH0
        try simp only [Act.put, List.setIfInBounds_toArray, List.set_cons_zero, List.set_cons_succ]
        clear t0 t1
        refine wpAnyH_ready (rs := [3]) (by kernel_rfl) (by simp) ?_
        refine AllReadyH.cons rfl (fun K hK => ?_) AllReadyH.nil
        go_simp
        go_at_call 61
        with_reducible refine (CR.out _ RD.out.drew).mono ?_
        rintro x w4 ⟨y, rfl, hyk, hya, hyr, hyd, hr4, hg4⟩
        obtain ⟨⟨yo, ys, yu, ya, yq, yr⟩, yK, yD⟩ := y
        dsimp only at hyk hya hyr hyd
        obtain ⟨yA, yc, rfl, -⟩ := hya.slice
        obtain ⟨yB, yd, rfl, -⟩ := hyr.slice
        have HYK := Lib.hid hyk
        have HYA := Lib.hid hya
        have HYR := Lib.hid hyr
        have RD4 := Lib.hid hr4
        have G4 := Lib.hid hg4
        have LF4 := Lib.hid (Lies.grown (Lies.drew LF.out) hg4 (fun e => by have := HPF.out; injection e; omega))
        have LR4 := Lib.hid (Lies.grown (Lies.drew LR.out) hg4 (fun e => by have := HPP.out; injection e; omega))
        have Q4 := Lib.hid (Q.out.drew.grown hg4 Q.out.size (fun k hk => by have := HPP.out; have := HGR.out; injection hk; omega))
        have NF4 : Hid (NF w4 (p + 1) (.slice A j c) j X) := Lib.hid (by obtain ⟨A9, c9, hL9, -⟩ := RD.out; exact NF.grownRd (w := wr.drew) ⟨HNF.out.row, HNF.out.a, HNF.out.r, HNF.out.b, HNF.out.da, HNF.out.dr⟩ (Lies.drew hL9) hg4)
        clear hyk hya hyr hyd hr4 hg4
        refine hK.out _ _ trivial (fun hH2 => ?_)
        clear hK K hH1
        try simp only [Act.put, List.setIfInBounds_toArray, List.set_cons_zero, List.set_cons_succ]
        have HG5 : Hid (p + 1 ≤ (w4.alloc (.cells #[.int .u32 (yo : Int), .int .i64 ys, .bool yu, .slice yA ya.length yc, .int .i64 yq, .slice yB yr.length yd] 34)).heap.size) := Lib.hid (Nat.le_trans HBR.out (Nat.le_trans G4.out.size (by simp)))
        refine wpAnyH_ready (rs := [4]) (by kernel_rfl) (by simp) ?_
        refine AllReadyH.cons rfl (fun K hK => ?_) AllReadyH.nil
        go_simp
        refine hK.out _ _ trivial (fun hH3 => ?_)
        clear hK K hH2
        try simp only [Act.put, List.setIfInBounds_toArray, List.set_cons_zero, List.set_cons_succ]
        refine wpAnyH_ready (rs := [5]) (by kernel_rfl) (by simp) ?_
        refine AllReadyH.cons rfl (fun K hK => ?_) AllReadyH.nil
        refine stp_appendK (some 22) _ _ _ (.tmp 18) (.tmp 21) (p + 1) (.slice A j c) j X w4.heap.size ⟨⟨yo, ys, yu, ya, yq, yr⟩, .slice yA ya.length yc, .slice yB yr.length yd⟩ rfl rfl (NF4.out.row.alloc (.cells #[.int .u32 (yo : Int), .int .i64 ys, .bool yu, .slice yA ya.length yc, .int .i64 yq, .slice yB yr.length yd] 34)) (Lies.made w4 34 #[.int .u32 (yo : Int), .int .i64 ys, .bool yu, .slice yA ya.length yc, .int .i64 yq, .slice yB yr.length yd]) ⟨rfl, rfl⟩ (by omega) HG5.out ?_
        intro gg cap w9 ho9 hg9 hb9
        have NF9 := Lib.hid (NF.snoc (y := ⟨⟨yo, ys, yu, ya, yq, yr⟩, .slice yA ya.length yc, .slice yB yr.length yd⟩) (NF4.out.below (below1 w4 (.cells #[.int .u32 (yo : Int), .int .i64 ys, .bool yu, .slice yA ya.length yc, .int .i64 yq, .slice yB yr.length yd] 34))) HBR.out (fun i hi => ⟨(HNF.out.a i hi).lt, (HNF.out.r i hi).lt⟩) (HYA.out.alloc _) (HYR.out.alloc _) (by have h := HYB.out; rw [← HYK.out] at h; exact h) ho9 hg9)
        have LF9 := Lib.hid ((LF4.out.alloc (.cells #[.int .u32 (yo : Int), .int .i64 ys, .bool yu, .slice yA ya.length yc, .int .i64 yq, .slice yB yr.length yd] 34)).grown hg9 (NF4.out.row.ne LF4.out (by decide)))
        have LR9 := Lib.hid ((LR4.out.alloc (.cells #[.int .u32 (yo : Int), .int .i64 ys, .bool yu, .slice yA ya.length yc, .int .i64 yq, .slice yB yr.length yd] 34)).grown hg9 (NF4.out.row.ne LR4.out (by decide)))
        have Q9 := Lib.hid ((Q4.out.alloc Q4.out.size (.cells #[.int .u32 (yo : Int), .int .i64 ys, .bool yu, .slice yA ya.length yc, .int .i64 yq, .slice yB yr.length yd] 34)).grown hg9 (Nat.le_trans Q4.out.size (by simp)) (fun k hk => by have := NF4.out.row.block k hk; have := HGR.out; have := HPP.out; omega))
        have RD9 : Hid (Rd 135 w9 p (rdSt one l s2 (j + 1)) l) := Lib.hid (RD4.out.grownK (Nat.lt_succ_self p) NF4.out.row (below1 w4 (.cells #[.int .u32 (yo : Int), .int .i64 ys, .bool yu, .slice yA ya.length yc, .int .i64 yq, .slice yB yr.length yd] 34)) hg9)
        clear ho9 hg9 hb9
        obtain ⟨t0, t1⟩ := LF9.out.cells2
        obtain ⟨r0, r1⟩ := LF9.out.free2
        refine hK.out _ _ trivial (fun hHa => ?_)
        clear hK K hH3
        try simp only [Act.put, List.setIfInBounds_toArray, List.set_cons_zero, List.set_cons_succ]
        refine any_take 6 23 ?vg2x6 rfl rfl (by kernel_rfl) (by kernel_rfl) (by kernel_rfl) (fun _ _ _ h => h) (by rfl) ?hyg2x6 hHa ?restg2x6
        case hyg2x6 => ((intro W hSw); go_simp; (try with_reducible rfl))
        try simp only [Act.put, List.setIfInBounds_toArray, List.set_cons_zero, List.set_cons_succ]
        refine wpAnyH_ready (rs := [7]) (by kernel_rfl) (by simp) ?_
        refine AllReadyH.cons rfl (fun K hK => ?_) AllReadyH.nil
        go_simp
        refine hK.out _ _ trivial (fun hHb => ?_)
        clear hK K hHa hHb
        try simp only [Act.put, List.setIfInBounds_toArray, List.set_cons_zero, List.set_cons_succ]
        refine wpAnyH_done (by kernel_rfl) ?_ _
        refine NoPanic.normal ?_
        have LFn := Lib.hid (LF9.out.put 1 (.slice (some ⟨gg, 0, none⟩) (j + 1) cap))
        have LRn := Lib.hid (LR9.out.other (a := ⟨gf, 1, none⟩) (show gr ≠ gf by have := HPP.out; have := HPF.out; omega) (.slice (some ⟨gg, 0, none⟩) (j + 1) cap))
        have NFn := Lib.hid (NF9.out.put1 LF9.out (.slice (some ⟨gg, 0, none⟩) (j + 1) cap))
        have RDn := Lib.hid (RD9.out.setq HPF.out 1 (.slice (some ⟨gg, 0, none⟩) (j + 1) cap))
        have Qn := Lib.hid (Q9.out.setCell (p := ⟨gf, 1, none⟩) (by have := HGR.out; have := HPP.out; have := HPF.out; show w.heap.size ≤ gf; omega) (.slice (some ⟨gg, 0, none⟩) (j + 1) cap))
        clear t0 t1 r0 r1
        go_wp2
        go_roundw
        case rel =>
          refine ⟨j + 1, _, cap, _, by omega, by go_num, RDn.out, LFn.out, NFn.out, fun i hi => ?_, LRn.out, Qn.out⟩
          show (if i = j then _ else X i).k = _
          by_cases e : i = j
          · rw [if_pos e, e]; exact HYK.out
          · rw [if_neg e]; exact HX.out i (by omega)
        case measure => simp [intOf]; omega
      · go_simp
        go_at_call 61
        with_reducible refine (CR.out _ RD.out.drew).mono ?_
        rintro x w4 ⟨y, rfl, hyk, hya, hyr, hyd, hr4, hg4⟩
        obtain ⟨⟨yo, ys, yu, ya, yq, yr⟩, yK, yD⟩ := y
        dsimp only at hyk hya hyr hyd
        obtain ⟨yA, yc, rfl, -⟩ := hya.slice
        obtain ⟨yB, yd, rfl, -⟩ := hyr.slice
        have HYK := Lib.hid hyk
        have HYA := Lib.hid hya
        have HYR := Lib.hid hyr
        have RD4 := Lib.hid hr4
        have G4 := Lib.hid hg4
        have LF4 := Lib.hid (Lies.grown (Lies.drew LF.out) hg4 (fun e => by have := HPF.out; injection e; omega))
        have LR4 := Lib.hid (Lies.grown (Lies.drew LR.out) hg4 (fun e => by have := HPP.out; injection e; omega))
        have Q4 := Lib.hid (Q.out.drew.grown hg4 Q.out.size (fun k hk => by have := HPP.out; have := HGR.out; injection hk; omega))
        have NF4 : Hid (NF w4 (p + 1) (.slice A j c) j X) := Lib.hid (by obtain ⟨A9, c9, hL9, -⟩ := RD.out; exact NF.grownRd (w := wr.drew) ⟨HNF.out.row, HNF.out.a, HNF.out.r, HNF.out.b, HNF.out.da, HNF.out.dr⟩ (Lies.drew hL9) hg4)
        clear hyk hya hyr hyd hr4 hg4
        refine hK.out _ _ trivial (fun hH11 => ?_)
        clear hK K hH0
        try simp only [Act.put, List.setIfInBounds_toArray, List.set_cons_zero, List.set_cons_succ]
        have HG5 : Hid (p + 1 ≤ (w4.alloc (.cells #[.int .u32 (yo : Int), .int .i64 ys, .bool yu, .slice yA ya.length yc, .int .i64 yq, .slice yB yr.length yd] 34)).heap.size) := Lib.hid (Nat.le_trans HBR.out (Nat.le_trans G4.out.size (by simp)))
        refine wpAnyH_ready (rs := [1, 4]) (by kernel_rfl) (by simp) ?_
        refine AllReadyH.cons rfl (fun K hK => ?_) (AllReadyH.cons rfl (fun K hK => ?_) AllReadyH.nil)
        · obtain ⟨t0, t1⟩ := LF4.out.cells2
          go_simp
          refine hK.out _ _ trivial (fun hH12 => ?_)
          clear hK K hH11
          try simp only [Act.put, List.setIfInBounds_toArray, List.set_cons_zero, List.set_cons_succ]
          clear t0 t1
          refine wpAnyH_ready (rs := [4]) (by kernel_rfl) (by simp) ?_
          refine AllReadyH.cons rfl (fun K hK => ?_) AllReadyH.nil
          go_simp
          refine hK.out _ _ trivial (fun hH13 => ?_)
          clear hK K hH12
          try simp only [Act.put, List.setIfInBounds_toArray, List.set_cons_zero, List.set_cons_succ]
          refine wpAnyH_ready (rs := [5]) (by kernel_rfl) (by simp) ?_
          refine AllReadyH.cons rfl (fun K hK => ?_) AllReadyH.nil
          refine stp_appendK (some 22) _ _ _ (.tmp 18) (.tmp 21) (p + 1) (.slice A j c) j X w4.heap.size ⟨⟨yo, ys, yu, ya, yq, yr⟩, .slice yA ya.length yc, .slice yB yr.length yd⟩ rfl rfl (NF4.out.row.alloc (.cells #[.int .u32 (yo : Int), .int .i64 ys, .bool yu, .slice yA ya.length yc, .int .i64 yq, .slice yB yr.length yd] 34)) (Lies.made w4 34 #[.int .u32 (yo : Int), .int .i64 ys, .bool yu, .slice yA ya.length yc, .int .i64 yq, .slice yB yr.length yd]) ⟨rfl, rfl⟩ (by omega) HG5.out ?_
          intro gg cap w9 ho9 hg9 hb9
          have NF9 := Lib.hid (NF.snoc (y := ⟨⟨yo, ys, yu, ya, yq, yr⟩, .slice yA ya.length yc, .slice yB yr.length yd⟩) (NF4.out.below (below1 w4 (.cells #[.int .u32 (yo : Int), .int .i64 ys, .bool yu, .slice yA ya.length yc, .int .i64 yq, .slice yB yr.length yd] 34))) HBR.out (fun i hi => ⟨(HNF.out.a i hi).lt, (HNF.out.r i hi).lt⟩) (HYA.out.alloc _) (HYR.out.alloc _) (by have h := HYB.out; rw [← HYK.out] at h; exact h) ho9 hg9)
          have LF9 := Lib.hid ((LF4.out.alloc (.cells #[.int .u32 (yo : Int), .int .i64 ys, .bool yu, .slice yA ya.length yc, .int .i64 yq, .slice yB yr.length yd] 34)).grown hg9 (NF4.out.row.ne LF4.out (by decide)))
          have LR9 := Lib.hid ((LR4.out.alloc (.cells #[.int .u32 (yo : Int), .int .i64 ys, .bool yu, .slice yA ya.length yc, .int .i64 yq, .slice yB yr.length yd] 34)).grown hg9 (NF4.out.row.ne LR4.out (by decide)))
          have Q9 := Lib.hid ((Q4.out.alloc Q4.out.size (.cells #[.int .u32 (yo : Int), .int .i64 ys, .bool yu, .slice yA ya.length yc, .int .i64 yq, .slice yB yr.length yd] 34)).grown hg9 (Nat.le_trans Q4.out.size (by simp)) (fun k hk => by have := NF4.out.row.block k hk; have := HGR.out; have := HPP.out; omega))
          have RD9 : Hid (Rd 135 w9 p (rdSt one l s2 (j + 1)) l) := Lib.hid (RD4.out.grownK (Nat.lt_succ_self p) NF4.out.row (below1 w4 (.cells #[.int .u32 (yo : Int), .int .i64 ys, .bool yu, .slice yA ya.length yc, .int .i64 yq, .slice yB yr.length yd] 34)) hg9)
          clear ho9 hg9 hb9
          obtain ⟨t0, t1⟩ := LF9.out.cells2
          obtain ⟨r0, r1⟩ := LF9.out.free2
          refine hK.out _ _ trivial (fun hHa => ?_)
          clear hK K hH13
          try simp only [Act.put, List.setIfInBounds_toArray, List.set_cons_zero, List.set_cons_succ]
          refine any_take 6 23 ?vg3x6 rfl rfl (by kernel_rfl) (by kernel_rfl) (by kernel_rfl) (fun _ _ _ h => h) (by rfl) ?hyg3x6 hHa ?restg3x6
          case hyg3x6 => ((intro W hSw); go_simp; (try with_reducible rfl))
          try simp only [Act.put, List.setIfInBounds_toArray, List.set_cons_zero, List.set_cons_succ]
          refine wpAnyH_ready (rs := [7]) (by kernel_rfl) (by simp) ?_
          refine AllReadyH.cons rfl (fun K hK => ?_) AllReadyH.nil
          go_simp
          refine hK.out _ _ trivial (fun hHb => ?_)
          clear hK K hHa hHb
          try simp only [Act.put, List.setIfInBounds_toArray, List.set_cons_zero, List.set_cons_succ]
          refine wpAnyH_done (by kernel_rfl) ?_ _
          refine NoPanic.normal ?_
          have LFn := Lib.hid (LF9.out.put 1 (.slice (some ⟨gg, 0, none⟩) (j + 1) cap))
          have LRn := Lib.hid (LR9.out.other (a := ⟨gf, 1, none⟩) (show gr ≠ gf by have := HPP.out; have := HPF.out; omega) (.slice (some ⟨gg, 0, none⟩) (j + 1) cap))
          have NFn := Lib.hid (NF9.out.put1 LF9.out (.slice (some ⟨gg, 0, none⟩) (j + 1) cap))
          have RDn := Lib.hid (RD9.out.setq HPF.out 1 (.slice (some ⟨gg, 0, none⟩) (j + 1) cap))
          have Qn := Lib.hid (Q9.out.setCell (p := ⟨gf, 1, none⟩) (by have := HGR.out; have := HPP.out; have := HPF.out; show w.heap.size ≤ gf; omega) (.slice (some ⟨gg, 0, none⟩) (j + 1) cap))
          clear t0 t1 r0 r1
          go_wp2
          go_roundw
          case rel =>
            refine ⟨j + 1, _, cap, _, by omega, by go_num, RDn.out, LFn.out, NFn.out, fun i hi => ?_, LRn.out, Qn.out⟩
            show (if i = j then _ else X i).k = _
            by_cases e : i = j
            · rw [if_pos e, e]; exact HYK.out
            · rw [if_neg e]; exact HX.out i (by omega)
          case measure => simp [intOf]; omega
        · go_simp
          refine hK.out _ _ trivial (fun hH14 => ?_)
          clear hK K hH11
          try simp only [Act.put, List.setIfInBounds_toArray, List.set_cons_zero, List.set_cons_succ]
          obtain ⟨t0, t1⟩ := Lies.cells2 (LF4.out.alloc (.cells #[.int .u32 (yo : Int), .int .i64 ys, .bool yu, .slice yA ya.length yc, .int .i64 yq, .slice yB yr.length yd] 34))
          refine wpAnyH_ready (rs := [1]) (by kernel_rfl) (by simp) ?_
          refine AllReadyH.cons rfl (fun K hK => ?_) AllReadyH.nil
          go_simp
          refine hK.out _ _ trivial (fun hH15 => ?_)
          clear hK K hH14
          try simp only [Act.put, List.setIfInBounds_toArray, List.set_cons_zero, List.set_cons_succ]
          clear t0 t1
          refine wpAnyH_ready (rs := [5]) (by kernel_rfl) (by simp) ?_
          refine AllReadyH.cons rfl (fun K hK => ?_) AllReadyH.nil
          refine stp_appendK (some 22) _ _ _ (.tmp 18) (.tmp 21) (p + 1) (.slice A j c) j X w4.heap.size ⟨⟨yo, ys, yu, ya, yq, yr⟩, .slice yA ya.length yc, .slice yB yr.length yd⟩ rfl rfl (NF4.out.row.alloc (.cells #[.int .u32 (yo : Int), .int .i64 ys, .bool yu, .slice yA ya.length yc, .int .i64 yq, .slice yB yr.length yd] 34)) (Lies.made w4 34 #[.int .u32 (yo : Int), .int .i64 ys, .bool yu, .slice yA ya.length yc, .int .i64 yq, .slice yB yr.length yd]) ⟨rfl, rfl⟩ (by omega) HG5.out ?_
          intro gg cap w9 ho9 hg9 hb9
          have NF9 := Lib.hid (NF.snoc (y := ⟨⟨yo, ys, yu, ya, yq, yr⟩, .slice yA ya.length yc, .slice yB yr.length yd⟩) (NF4.out.below (below1 w4 (.cells #[.int .u32 (yo : Int), .int .i64 ys, .bool yu, .slice yA ya.length yc, .int .i64 yq, .slice yB yr.length yd] 34))) HBR.out (fun i hi => ⟨(HNF.out.a i hi).lt, (HNF.out.r i hi).lt⟩) (HYA.out.alloc _) (HYR.out.alloc _) (by have h := HYB.out; rw [← HYK.out] at h; exact h) ho9 hg9)
          have LF9 := Lib.hid ((LF4.out.alloc (.cells #[.int .u32 (yo : Int), .int .i64 ys, .bool yu, .slice yA ya.length yc, .int .i64 yq, .slice yB yr.length yd] 34)).grown hg9 (NF4.out.row.ne LF4.out (by decide)))
          have LR9 := Lib.hid ((LR4.out.alloc (.cells #[.int .u32 (yo : Int), .int .i64 ys, .bool yu, .slice yA ya.length yc, .int .i64 yq, .slice yB yr.length yd] 34)).grown hg9 (NF4.out.row.ne LR4.out (by decide)))
          have Q9 := Lib.hid ((Q4.out.alloc Q4.out.size (.cells #[.int .u32 (yo : Int), .int .i64 ys, .bool yu, .slice yA ya.length yc, .int .i64 yq, .slice yB yr.length yd] 34)).grown hg9 (Nat.le_trans Q4.out.size (by simp)) (fun k hk => by have := NF4.out.row.block k hk; have := HGR.out; have := HPP.out; omega))
          have RD9 : Hid (Rd 135 w9 p (rdSt one l s2 (j + 1)) l) := Lib.hid (RD4.out.grownK (Nat.lt_succ_self p) NF4.out.row (below1 w4 (.cells #[.int .u32 (yo : Int), .int .i64 ys, .bool yu, .slice yA ya.length yc, .int .i64 yq, .slice yB yr.length yd] 34)) hg9)
          clear ho9 hg9 hb9
          obtain ⟨t0, t1⟩ := LF9.out.cells2
          obtain ⟨r0, r1⟩ := LF9.out.free2
          refine hK.out _ _ trivial (fun hHa => ?_)
          clear hK K hH15
          try simp only [Act.put, List.setIfInBounds_toArray, List.set_cons_zero, List.set_cons_succ]
          refine any_take 6 23 ?vg4x6 rfl rfl (by kernel_rfl) (by kernel_rfl) (by kernel_rfl) (fun _ _ _ h => h) (by rfl) ?hyg4x6 hHa ?restg4x6
          case hyg4x6 => ((intro W hSw); go_simp; (try with_reducible rfl))
          try simp only [Act.put, List.setIfInBounds_toArray, List.set_cons_zero, List.set_cons_succ]
          refine wpAnyH_ready (rs := [7]) (by kernel_rfl) (by simp) ?_
          refine AllReadyH.cons rfl (fun K hK => ?_) AllReadyH.nil
          go_simp
          refine hK.out _ _ trivial (fun hHb => ?_)
          clear hK K hHa hHb
          try simp only [Act.put, List.setIfInBounds_toArray, List.set_cons_zero, List.set_cons_succ]
          refine wpAnyH_done (by kernel_rfl) ?_ _
          refine NoPanic.normal ?_
          have LFn := Lib.hid (LF9.out.put 1 (.slice (some ⟨gg, 0, none⟩) (j + 1) cap))
          have LRn := Lib.hid (LR9.out.other (a := ⟨gf, 1, none⟩) (show gr ≠ gf by have := HPP.out; have := HPF.out; omega) (.slice (some ⟨gg, 0, none⟩) (j + 1) cap))
          have NFn := Lib.hid (NF9.out.put1 LF9.out (.slice (some ⟨gg, 0, none⟩) (j + 1) cap))
          have RDn := Lib.hid (RD9.out.setq HPF.out 1 (.slice (some ⟨gg, 0, none⟩) (j + 1) cap))
          have Qn := Lib.hid (Q9.out.setCell (p := ⟨gf, 1, none⟩) (by have := HGR.out; have := HPP.out; have := HPF.out; show w.heap.size ≤ gf; omega) (.slice (some ⟨gg, 0, none⟩) (j + 1) cap))
          clear t0 t1 r0 r1
          go_wp2
          go_roundw
          case rel =>
            refine ⟨j + 1, _, cap, _, by omega, by go_num, RDn.out, LFn.out, NFn.out, fun i hi => ?_, LRn.out, Qn.out⟩
            show (if i = j then _ else X i).k = _
            by_cases e : i = j
            · rw [if_pos e, e]; exact HYK.out
            · rw [if_neg e]; exact HX.out i (by omega)
          case measure => simp [intOf]; omega
    · have dj : decide ((j : Int) < (n : Int)) = false := by rw [decide_eq_false_iff_not]; omega
      have djb : decide (j < n) = false := decide_eq_false hlt
      have hjn : j = n := by omega
      rw [hjn] at LF HNF HX
      have HFV : Hid (FV wr A n c (rdE one l s2)) := Lib.hid (by obtain ⟨A', c', hv, hf⟩ := HNF.out.fv (T := rdE one l s2) HX.out; injection hv with z1 z2 z3; subst z1 z3; exact hf)
      have CP := Lib.hid (put_any ep A n c (rdE one l s2) wr HFV.out HEP.out)
      unfold PutPost at CP
      obtain ⟨t0, t1⟩ := LF.out.cells2
      cases hok : okB n (rdE one l s2)
      · have hck : chkC n (rdE one l s2) = 2 := by unfold chkC; rw [hok]; rfl
        rw [hck] at CP
        rw [hok] at CP
        rw [if_neg (by decide)] at CP
        go_wp2_with fail
        with_reducible refine CP.out.mono ?_
        rintro x w5 ⟨v, rfl, ho, hb⟩
        obtain ⟨Ap, cp, rfl, -⟩ := ho.slice
        have HO := Lib.hid ho
        have LR5 := Lib.hid (LR.out.below hb LR.out.lt)
        have LF5 := Lib.hid (LF.out.below hb LF.out.lt)
        have Q5 := Lib.hid (Q.out.trans (hb.mono Q.out.size))
        have NF5 := Lib.hid (HNF.out.below hb)
        clear ho hb t0 t1 CP
        obtain ⟨t0, t1⟩ := LF5.out.cells2
        obtain ⟨a0, a1⟩ := LR5.out.cells2
        obtain ⟨a2, a3⟩ := LR5.out.free2
        have HNI : Hid (¬ isF one l) := Lib.hid (fun h => by have h2 := (HIS.out.1 h).1; rw [hok] at h2; cases h2)
        go_wp2
        refine ret_fence gr 25 _ rfl rfl (LR5.out.put2 _ _) rfl rfl ?_
        rw [(HNOT.out HNI.out).1, (HNOT.out HNI.out).2]
        exact ⟨_, fun _ => ⟨kz, .slice none 0 0, .slice none 0 0⟩, rfl, NF.nil _ _ _, (fun i hi => absurd hi (Nat.not_lt_zero i)), below_put2 Q5.out (Nat.le_of_eq HGR.out.symm) _ _⟩
      · have hck : chkC n (rdE one l s2) = 0 := by unfold chkC; rw [hok]; rfl
        rw [hck] at CP
        rw [hok] at CP
        rw [if_pos rfl] at CP
        go_wp2_with fail
        with_reducible refine CP.out.mono ?_
        rintro x w5 ⟨v, rfl, ho, hb⟩
        obtain ⟨Ap, cp, rfl, -⟩ := ho.slice
        have HO := Lib.hid ho
        have LR5 := Lib.hid (LR.out.below hb LR.out.lt)
        have LF5 := Lib.hid (LF.out.below hb LF.out.lt)
        have Q5 := Lib.hid (Q.out.trans (hb.mono Q.out.size))
        have NF5 := Lib.hid (HNF.out.below hb)
        clear ho hb t0 t1 CP
        obtain ⟨t0, t1⟩ := LF5.out.cells2
        obtain ⟨a0, a1⟩ := LR5.out.cells2
        obtain ⟨a2, a3⟩ := LR5.out.free2
        have CE := Lib.hid (equal_any Ap A0 _ n0 cp c0 _ l w5 HO.out.bys.1 (HB5.out w5 Q5.out))
        by_cases heq : putS ep n (rdE one l s2) = l
        · have HYI := Lib.hid (HIS.out.2 ⟨hok, heq⟩)
          have hsb : sameB (putS ep n (rdE one l s2)) l = true := by unfold sameB; exact decide_eq_true heq
          rw [hsb] at CE
          generalize (putS ep n (rdE one l s2)).length = pl at *
          go_wp2_with fail
          with_reducible refine CE.out.mono ?_
          rintro x w6 ⟨rfl, rfl⟩
          go_wp2
          refine ret_fence gr 25 _ rfl rfl (LR5.out.put2 _ _) rfl rfl ?_
          rw [(HYES.out HYI.out).1, (HYES.out HYI.out).2]
          refine ⟨_, X, rfl, ?_, HX.out, below_put2 Q5.out (Nat.le_of_eq HGR.out.symm) _ _⟩
          exact (NF5.out.put2 LR5.out _ _).mono (by have := HGR.out; have := HPP.out; omega)
        · have HNI : Hid (¬ isF one l) := Lib.hid (fun h => heq (HIS.out.1 h).2)
          have hsb : sameB (putS ep n (rdE one l s2)) l = false := by unfold sameB; exact decide_eq_false heq
          rw [hsb] at CE
          generalize (putS ep n (rdE one l s2)).length = pl at *
          go_wp2_with fail
          with_reducible refine CE.out.mono ?_
          rintro x w6 ⟨rfl, rfl⟩
          go_wp2
          refine ret_fence gr 25 _ rfl rfl (LR5.out.put2 _ _) rfl rfl ?_
          rw [(HNOT.out HNI.out).1, (HNOT.out HNI.out).2]
          exact ⟨_, fun _ => ⟨kz, .slice none 0 0, .slice none 0 0⟩, rfl, NF.nil _ _ _, (fun i hi => absurd hi (Nat.not_lt_zero i)), below_put2 Q5.out (Nat.le_of_eq HGR.out.symm) _ _⟩

end Go.Proofs.Ytfcfejmammohpaa
