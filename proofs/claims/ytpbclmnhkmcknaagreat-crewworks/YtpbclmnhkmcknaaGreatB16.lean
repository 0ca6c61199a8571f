/-
  The contract of Serve.
-/
import Derived.Deep.DeepCutAuto
import Derived.Test.YtpbclmnhkmcknaaGreatB15
namespace Go.Proofs.YtpbclmnhkmcknaaGreat
open Go.RowKit
open Fe (Lies Own Bys Reads NF Kx Kp Note)
set_option maxRecDepth 100000
set_option linter.unusedVariables false
set_option linter.unusedSimpArgs false

theorem serve_bad {q : Cq} {N : Note} (h : Fe.askS q.f.ep q.f.n q.f.T N = ⟨0, Fe.kz, 2⟩) : serveS q N = ⟨noN q.f.ep 1, q⟩ := by unfold serveS; rw [h]; rfl
theorem serve_stale {q : Cq} {N : Note} (h : Fe.askS q.f.ep q.f.n q.f.T N = ⟨0, Fe.kz, 72⟩) : serveS q N = ⟨fenceN q.f.ep N, q⟩ := by unfold serveS; rw [h]; rfl
theorem serve_clash {q : Cq} {N : Note} (h : Fe.askS q.f.ep q.f.n q.f.T N = ⟨0, Fe.kz, 80⟩) : serveS q N = ⟨noN q.f.ep 2, q⟩ := by unfold serveS; rw [h]; rfl
theorem serve_again {q : Cq} {N : Note} {k : Kp} (h : Fe.askS q.f.ep q.f.n q.f.T N = ⟨2, k, 0⟩) : serveS q N = ⟨doneN N k.c k.r, { q with f := Fe.seeF q.f.ep q.f.n q.f.T N.epoch }⟩ := by unfold serveS; rw [h]; rfl
theorem serve_full {q : Cq} {N : Note} {a : Nat} (ha : a = 1 ∨ a = 3 ∨ a = 4) (h : Fe.askS q.f.ep q.f.n q.f.T N = ⟨a, Fe.kz, 0⟩) (hn : q.f.n = 200) : serveS q N = ⟨noN q.f.ep 3, q⟩ := by
  unfold serveS; rw [h]
  dsimp only
  rw [if_neg (by decide), if_neg (by decide), if_neg (by decide), if_neg (by omega), if_pos hn]
theorem serve_new {q : Cq} {N : Note} {a : Nat} (ha : a = 1 ∨ a = 3 ∨ a = 4) (h : Fe.askS q.f.ep q.f.n q.f.T N = ⟨a, Fe.kz, 0⟩) (hn : q.f.n ≠ 200) : serveS q N = ⟨doneN N (decideS q a N).v (decideS q a N).r, { (decideS q a N).q with f := Fe.keepF q.f.ep q.f.n q.f.T N (decideS q a N).v (decideS q a N).r }⟩ := by
  unfold serveS; rw [h]
  dsimp only
  rw [if_neg (by decide), if_neg (by decide), if_neg (by decide), if_neg (by omega), if_neg hn]
theorem Bys_chg {F : Nat → Prop} {w W : World} {A : Option Addr} {n c : Nat} {l : List Nat} (h : Bys w A n l) (hc : Chg F w W) (hF : ∀ i, F i → (Value.slice A n c).ownBlock ≠ some i) : Bys W A n l := by
  obtain ⟨h1, h2, h3⟩ := h
  refine ⟨h1, h2, fun h0 => ?_⟩
  obtain ⟨b, off, rfl, hcell⟩ := h3 h0
  refine ⟨b, off, rfl, fun i hi => ?_⟩
  have hb := block_lt_of_cell (hcell i hi)
  have he := hc.block b hb (fun hf => hF b hf rfl)
  rw [← hcell i hi]
  simp only [World.cell?, he]
theorem EntV_chg {F : Nat → Prop} {w W : World} {N : Note} {A1 A2 : Option Addr} {c1 c2 : Nat} (h : Fe.EntV w N A1 A2 c1 c2) (hc : Chg F w W) (hF : ∀ i, F i → (Value.slice A1 N.key.length c1).ownBlock ≠ some i ∧ (Value.slice A2 N.data.length c2).ownBlock ≠ some i) : Fe.EntV W N A1 A2 c1 c2 :=
  ⟨Bys_chg h.k hc (fun i hi => (hF i hi).1), h.kc, h.km, h.ka, Bys_chg h.d hc (fun i hi => (hF i hi).2), h.dc, h.dm, h.da, h.b⟩
theorem see_ok {ep n e : Nat} {T : Nat → Kp} (hok : Fe.okB n T = true) (hlt : ¬ e < ep) : Fe.seeE ep n T e = 0 ∧ Fe.seeF ep n T e = ⟨e, n, T⟩ := by
  have h0 : Fe.seeE ep n T e = 0 := by
    unfold Fe.seeE; rw [if_pos hok, if_neg hlt]
  exact ⟨h0, by unfold Fe.seeF; rw [if_pos h0]⟩
theorem decide_f (q : Cq) (a : Nat) (N : Note) : (decideS q a N).q.f = q.f := by
  unfold decideS
  split
  · rfl
  · split
    · rfl
    · unfold effS addE
      split <;> exact (exec_E q _ _ _).2

set_option maxHeartbeats 16000000 in
theorem serve_any {R : List Int} {b : CB} {q : Cq} (N : Note) (A1 A2 : Option Addr) (c1 c2 : Nat) (w : World) (h : CAt w b q) (hI : CInv R q) (hN : Fe.EntV w N A1 A2 c1 c2) (hs : Fe.in64 N.step) (hl : N.data.length ≤ 200000)
    (hNF : ∀ i, b.foot i → (Value.slice A1 N.key.length c1).ownBlock ≠ some i ∧ (Value.slice A2 N.data.length c2).ownBlock ≠ some i)
    (hd : ∀ a, (a = 1 ∨ a = 3 ∨ a = 4) → Fe.in64 (decideS q a N).v ∧ (decideS q a N).r.length ≤ 255 ∧ (Fe.askS q.f.ep q.f.n q.f.T N = ⟨a, Fe.kz, 0⟩ → q.f.n ≠ 200 → Fe.keepE q.f.ep q.f.n q.f.T N (decideS q a N).v (decideS q a N).r = 0)) :
    Calls Tryz.prog 23 #[.pointer (some ⟨b.c, 0, none⟩), .agg (Fe.evs N (.slice A1 N.key.length c1) (.slice A2 N.data.length c2))] w (SvPost w b (serveS q N)) := by
  obtain ⟨LA, Lc, hvL, hfv⟩ := h.f.fv h.fx
  rw [h.fn] at hvL hfv
  have HCAS := Lib.hid (ask_cases q.f.ep q.f.n q.f.T N)
  have HS := Lib.hid (fun s (e : serveS q N = s) => e)
  have HDC := Lib.hid hd
  have HSV1 := Lib.hid (fun (h : Fe.askS q.f.ep q.f.n q.f.T N = ⟨0, Fe.kz, 2⟩) => serve_bad h)
  have HSV2 := Lib.hid (fun (h : Fe.askS q.f.ep q.f.n q.f.T N = ⟨0, Fe.kz, 72⟩) => serve_stale h)
  have HSV3 := Lib.hid (fun (h : Fe.askS q.f.ep q.f.n q.f.T N = ⟨0, Fe.kz, 80⟩) => serve_clash h)
  have HSV4 := Lib.hid (fun k (h : Fe.askS q.f.ep q.f.n q.f.T N = ⟨2, k, 0⟩) => serve_again h)
  have HSV5 := Lib.hid (fun a (ha : a = 1 ∨ a = 3 ∨ a = 4) (h : Fe.askS q.f.ep q.f.n q.f.T N = ⟨a, Fe.kz, 0⟩) hn => serve_full ha h hn)
  have HSV6 := Lib.hid (fun a (ha : a = 1 ∨ a = 3 ∨ a = 4) (h : Fe.askS q.f.ep q.f.n q.f.T N = ⟨a, Fe.kz, 0⟩) hn => serve_new ha h hn)
  have HIh := Lib.hid hI
  have HNh := Lib.hid hN
  have HFVh := Lib.hid hfv
  have HW := Lib.hid h
  have hep := hI.ep
  have CA := Lib.hid (fun W (hb : Below w.heap.size w W) => Fe.ask_any q.f.ep LA q.f.n Lc q.f.T N A1 A2 c1 c2 W (hfv.below hb) (hN.below hb) hs hep)
  have CDd := Lib.hid (fun a (ha : a = 1 ∨ a = 3 ∨ a = 4) W (hb : Below w.heap.size w W) => decide_any a ha N A1 A2 c1 c2 W (h.below hb) hI (hN.below hb) hs hl)
  have CS := Lib.hid (fun W (hb : Below w.heap.size w W) => Fe.see_any q.f.ep LA q.f.n Lc q.f.T N.epoch W (hfv.below hb))
  obtain ⟨AA, hAA⟩ : ∃ a, Fe.askS q.f.ep q.f.n q.f.T N = a := ⟨_, rfl⟩
  rw [hAA] at CA HCAS HSV1 HSV2 HSV3 HSV4 HSV5 HSV6 HDC
  have HE := Lib.hid hN.b.epoch
  have HNW := Lib.hid (fun W (hc : Chg b.foot w W) => EntV_chg hN hc hNF)
  clear hNF
  clear hN hfv hAA hd hI
  obtain ⟨kd, e, ol, ls, tk, od, st, un, cd, ky, da⟩ := N
  dsimp only at *
  obtain ⟨W0, hW0⟩ : ∃ W0, W0 = (w.alloc (.cells #[.int .i64 kd, .int .u32 (e : Int), .int .u32 (ol : Int), .int .u64 (ls : Int), .int .u64 (tk : Int), .int .u32 (od : Int), .int .i64 st, .bool un, .int .i64 cd, .slice A1 ky.length c1, .slice A2 da.length c2] 55)).alloc (.cells NZ 55) := ⟨_, rfl⟩
  have HW0 := Lib.hid hW0
  have BB0 : Hid (Below w.heap.size w W0) := Lib.hid (by rw [hW0]; exact Fe.below2 w _ _)
  have HA0 : Hid (CAt W0 b q) := Lib.hid (h.below BB0.out)
  have LN0 : Hid (Lies W0 w.heap.size 55 #[.int .i64 kd, .int .u32 (e : Int), .int .u32 (ol : Int), .int .u64 (ls : Int), .int .u64 (tk : Int), .int .u32 (od : Int), .int .i64 st, .bool un, .int .i64 cd, .slice A1 ky.length c1, .slice A2 da.length c2]) := Lib.hid (by rw [hW0]; exact (Lies.made w 55 _).alloc _)
  have LR0 : Hid (Lies W0 (w.heap.size + 1) 55 NZ) := Lib.hid (by rw [hW0]; exact Lies.made2 w _ 55 _)
  have HC0 : Hid (Lies W0 b.c 122 #[.pointer (some ⟨b.s.s, 0, none⟩), .pointer (some ⟨b.p.s, 0, none⟩), .pointer (some ⟨b.d.s, 0, none⟩), .int .u32 (q.f.ep : Int), .slice LA q.f.n Lc, b.vE, b.vM]) := Lib.hid (by rw [← hvL]; exact HA0.out.c)
  clear h hW0
  go_enter Tryz.func23, Tryz.ntmps23
  go_wp2_with fail
  rw [← HW0.out]
  go_cut [5, 6, 7] (fun s5 s6 s7 W => s5 = .int .i64 (AA.act : Nat) ∧ s7 = .int .i64 (AA.e : Nat) ∧ ∃ g y, s6 = .pointer (some ⟨g, 0, none⟩) ∧ Lies W g 130 (Fe.kc y) ∧ Fe.NewK W W0.heap.size AA.k y ∧ Below W0.heap.size W0 W)
  case first =>
    as_aux_lemma =>
      refine wp_region_noPanic ?_
      refine wp_region_held_drew (S := fun W => Lies W b.c 122 #[.pointer (some ⟨b.s.s, 0, none⟩), .pointer (some ⟨b.p.s, 0, none⟩), .pointer (some ⟨b.d.s, 0, none⟩), .int .u32 (q.f.ep : Int), .slice LA q.f.n Lc, b.vE, b.vM] ∧ Lies W w.heap.size 55 #[.int .i64 kd, .int .u32 (e : Int), .int .u32 (ol : Int), .int .u64 (ls : Int), .int .u64 (tk : Int), .int .u32 (od : Int), .int .i64 st, .bool un, .int .i64 cd, .slice A1 ky.length c1, .slice A2 da.length c2]) (by kernel_rfl) (⟨HC0.out, LN0.out⟩) (fun hH0 => ?_)
      refine Fe.any_take 0 14 ?vt2 rfl rfl (by kernel_rfl) (by kernel_rfl) (by kernel_rfl) (fun _ _ _ h => h) (by rfl) ?ht2 hH0 ?rt2
      case ht2 => ((intro W hSw); obtain ⟨o0, o1, o2, o3, o4, o5, o6⟩ := Lies_cells7 hSw.1; obtain ⟨p0, p1, p2, p3, p4, p5, p6, p7, p8, p9, p10⟩ := hSw.2.cells11; go_simp; (try with_reducible rfl))
      try simp only [Act.put, List.setIfInBounds_toArray, List.set_cons_zero, List.set_cons_succ]
      refine Fe.any_take 1 15 ?vt3 rfl rfl (by kernel_rfl) (by kernel_rfl) (by kernel_rfl) (fun _ _ _ h => h) (by rfl) ?ht3 hH0 ?rt3
      case ht3 => ((intro W hSw); obtain ⟨o0, o1, o2, o3, o4, o5, o6⟩ := Lies_cells7 hSw.1; obtain ⟨p0, p1, p2, p3, p4, p5, p6, p7, p8, p9, p10⟩ := hSw.2.cells11; go_simp; (try with_reducible rfl))
      try simp only [Act.put, List.setIfInBounds_toArray, List.set_cons_zero, List.set_cons_succ]
      refine Fe.any_take 2 16 ?vt4 rfl rfl (by kernel_rfl) (by kernel_rfl) (by kernel_rfl) (fun _ _ _ h => h) (by rfl) ?ht4 hH0 ?rt4
      case ht4 => ((intro W hSw); obtain ⟨o0, o1, o2, o3, o4, o5, o6⟩ := Lies_cells7 hSw.1; obtain ⟨p0, p1, p2, p3, p4, p5, p6, p7, p8, p9, p10⟩ := hSw.2.cells11; go_simp; (try with_reducible rfl))
      try simp only [Act.put, List.setIfInBounds_toArray, List.set_cons_zero, List.set_cons_succ]
      refine Fe.any_take 3 17 ?vt5 rfl rfl (by kernel_rfl) (by kernel_rfl) (by kernel_rfl) (fun _ _ _ h => h) (by rfl) ?ht5 hH0 ?rt5
      case ht5 => ((intro W hSw); obtain ⟨o0, o1, o2, o3, o4, o5, o6⟩ := Lies_cells7 hSw.1; obtain ⟨p0, p1, p2, p3, p4, p5, p6, p7, p8, p9, p10⟩ := hSw.2.cells11; go_simp; (try with_reducible rfl))
      try simp only [Act.put, List.setIfInBounds_toArray, List.set_cons_zero, List.set_cons_succ]
      refine Fe.any_take 4 18 ?vt6 rfl rfl (by kernel_rfl) (by kernel_rfl) (by kernel_rfl) (fun _ _ _ h => h) (by rfl) ?ht6 hH0 ?rt6
      case ht6 => ((intro W hSw); obtain ⟨o0, o1, o2, o3, o4, o5, o6⟩ := Lies_cells7 hSw.1; obtain ⟨p0, p1, p2, p3, p4, p5, p6, p7, p8, p9, p10⟩ := hSw.2.cells11; go_simp; (try with_reducible rfl))
      try simp only [Act.put, List.setIfInBounds_toArray, List.set_cons_zero, List.set_cons_succ]
      refine wpAnyH_ready (rs := [5, 10]) (by kernel_rfl) (by simp) ?_
      refine AllReadyH.cons rfl (fun K hK => ?ord1) (AllReadyH.cons rfl (fun K hK => ?ord2) AllReadyH.nil)
      case ord1 =>
        go_simp
        go_at_call 62
        with_reducible refine (CA.out W0.drew BB0.out.drew).mono ?_
        rintro x w1 ⟨y, rfl, hy, hb⟩
        have HY1 : Hid (Fe.NewK w1 W0.heap.size AA.k y) := Lib.hid hy
        have BB1 : Hid (Below W0.heap.size W0 w1) := Lib.hid (Below.trans (Below.drew (Below.refl _ _)) hb)
        have HC1 := Lib.hid (HC0.out.below BB1.out HC0.out.lt)
        have LN1 := Lib.hid (LN0.out.below BB1.out LN0.out.lt)
        clear hy hb
        refine hK.out _ _ ⟨HC1.out, LN1.out⟩ (fun hH1 => ?_)
        clear hK K hH0
        try simp only [Act.put, List.setIfInBounds_toArray, List.set_cons_zero, List.set_cons_succ]
        refine Fe.any_take 6 13 ?vt7 rfl rfl (by kernel_rfl) (by kernel_rfl) (by kernel_rfl) (fun _ _ _ h => h) (by rfl) ?ht7 hH1 ?rt7
        case ht7 => ((intro W hSw); go_simp; (try with_reducible rfl))
        try simp only [Act.put, List.setIfInBounds_toArray, List.set_cons_zero, List.set_cons_succ]
        refine Fe.any_take 7 20 ?vt8 rfl rfl (by kernel_rfl) (by kernel_rfl) (by kernel_rfl) (fun _ _ _ h => h) (by rfl) ?ht8 hH1 ?rt8
        case ht8 => ((intro W hSw); go_simp; (try with_reducible rfl))
        try simp only [Act.put, List.setIfInBounds_toArray, List.set_cons_zero, List.set_cons_succ]
        refine Fe.any_take 8 21 ?vt9 rfl rfl (by kernel_rfl) (by kernel_rfl) (by kernel_rfl) (fun _ _ _ h => h) (by rfl) ?ht9 hH1 ?rt9
        case ht9 => ((intro W hSw); go_simp; (try with_reducible rfl))
        try simp only [Act.put, List.setIfInBounds_toArray, List.set_cons_zero, List.set_cons_succ]
        refine Fe.any_take 9 22 ?vt10 rfl rfl (by kernel_rfl) (by kernel_rfl) (by kernel_rfl) (fun _ _ _ h => h) (by rfl) ?ht10 hH1 ?rt10
        case ht10 => ((intro W hSw); go_simp; (try with_reducible rfl))
        try simp only [Act.put, List.setIfInBounds_toArray, List.set_cons_zero, List.set_cons_succ]
        refine wpAnyH_ready (rs := [10]) (by kernel_rfl) (by simp) ?_
        refine AllReadyH.cons rfl (fun K hK => ?_) AllReadyH.nil
        have HC2 : Hid (Lies (w1.alloc (.cells #[.int .u32 0, .int .i64 0, .bool false, .slice none 0 0, .int .i64 0, .slice none 0 0] 130)) b.c 122 #[.pointer (some ⟨b.s.s, 0, none⟩), .pointer (some ⟨b.p.s, 0, none⟩), .pointer (some ⟨b.d.s, 0, none⟩), .int .u32 (q.f.ep : Int), .slice LA q.f.n Lc, b.vE, b.vM]) := Lib.hid (HC1.out.alloc _)
        have LN2 : Hid (Lies (w1.alloc (.cells #[.int .u32 0, .int .i64 0, .bool false, .slice none 0 0, .int .i64 0, .slice none 0 0] 130)) w.heap.size 55 #[.int .i64 kd, .int .u32 (e : Int), .int .u32 (ol : Int), .int .u64 (ls : Int), .int .u64 (tk : Int), .int .u32 (od : Int), .int .i64 st, .bool un, .int .i64 cd, .slice A1 ky.length c1, .slice A2 da.length c2]) := Lib.hid (LN1.out.alloc _)
        go_simp
        refine hK.out _ _ ⟨HC2.out, LN2.out⟩ (fun hH2 => ?_)
        clear hK K hH1
        try simp only [Act.put, List.setIfInBounds_toArray, List.set_cons_zero, List.set_cons_succ]
        have LZ : Hid (Lies (w1.alloc (.cells #[.int .u32 0, .int .i64 0, .bool false, .slice none 0 0, .int .i64 0, .slice none 0 0] 130)) w1.heap.size 130 #[.int .u32 0, .int .i64 0, .bool false, .slice none 0 0, .int .i64 0, .slice none 0 0]) := Lib.hid (Lies.made w1 130 _)
        have HY2 : Hid (Fe.NewK (w1.alloc (.cells #[.int .u32 0, .int .i64 0, .bool false, .slice none 0 0, .int .i64 0, .slice none 0 0] 130)) W0.heap.size AA.k y) := Lib.hid (HY1.out.below (Fe.below1 w1 _))
        have BB2 : Hid (Below W0.heap.size W0 (w1.alloc (.cells #[.int .u32 0, .int .i64 0, .bool false, .slice none 0 0, .int .i64 0, .slice none 0 0] 130))) := Lib.hid (BB1.out.alloc BB1.out.size _)
        have HG : Hid (W0.heap.size ≤ w1.heap.size) := Lib.hid BB1.out.size
        refine Fe.any_take 11 5 ?vt11 rfl rfl (by kernel_rfl) (by kernel_rfl) (by kernel_rfl) (fun _ _ _ h => h) (by rfl) ?ht11 hH2 ?rt11
        case ht11 => ((intro W hSw); go_simp; (try with_reducible rfl))
        try simp only [Act.put, List.setIfInBounds_toArray, List.set_cons_zero, List.set_cons_succ]
        obtain ⟨yk, yK, yD⟩ := y
        obtain ⟨E1, d1, z1, -⟩ := HY2.out.2.1.slice
        obtain ⟨E2, d2, z2, -⟩ := HY2.out.2.2.slice
        dsimp only at z1 z2
        subst z1 z2
        obtain ⟨zc0, zc1, zc2, zc3, zc4, zc5⟩ := LZ.out.cells6
        obtain ⟨zf0, zf1, zf2, zf3, zf4, zf5⟩ := LZ.out.free6
        have HP : Hid (Lies (w1.alloc (.cells #[.int .u32 (yk.o : Int), .int .i64 yk.s, .bool yk.u, .slice E1 AA.k.a.length d1, .int .i64 yk.c, .slice E2 AA.k.r.length d2] 130)) w1.heap.size 130 #[.int .u32 (yk.o : Int), .int .i64 yk.s, .bool yk.u, .slice E1 AA.k.a.length d1, .int .i64 yk.c, .slice E2 AA.k.r.length d2]) := Lib.hid (Lies.made w1 130 _)
        have HCp : Hid (Lies (w1.alloc (.cells #[.int .u32 (yk.o : Int), .int .i64 yk.s, .bool yk.u, .slice E1 AA.k.a.length d1, .int .i64 yk.c, .slice E2 AA.k.r.length d2] 130)) b.c 122 #[.pointer (some ⟨b.s.s, 0, none⟩), .pointer (some ⟨b.p.s, 0, none⟩), .pointer (some ⟨b.d.s, 0, none⟩), .int .u32 (q.f.ep : Int), .slice LA q.f.n Lc, b.vE, b.vM]) := Lib.hid (HC1.out.alloc _)
        have LNp : Hid (Lies (w1.alloc (.cells #[.int .u32 (yk.o : Int), .int .i64 yk.s, .bool yk.u, .slice E1 AA.k.a.length d1, .int .i64 yk.c, .slice E2 AA.k.r.length d2] 130)) w.heap.size 55 #[.int .i64 kd, .int .u32 (e : Int), .int .u32 (ol : Int), .int .u64 (ls : Int), .int .u64 (tk : Int), .int .u32 (od : Int), .int .i64 st, .bool un, .int .i64 cd, .slice A1 ky.length c1, .slice A2 da.length c2]) := Lib.hid (LN1.out.alloc _)
        have HYp : Hid (Fe.NewK (w1.alloc (.cells #[.int .u32 (yk.o : Int), .int .i64 yk.s, .bool yk.u, .slice E1 AA.k.a.length d1, .int .i64 yk.c, .slice E2 AA.k.r.length d2] 130)) W0.heap.size AA.k ⟨yk, .slice E1 AA.k.a.length d1, .slice E2 AA.k.r.length d2⟩) := Lib.hid (HY1.out.below (Fe.below1 w1 _))
        have BBp : Hid (Below W0.heap.size W0 (w1.alloc (.cells #[.int .u32 (yk.o : Int), .int .i64 yk.s, .bool yk.u, .slice E1 AA.k.a.length d1, .int .i64 yk.c, .slice E2 AA.k.r.length d2] 130))) := Lib.hid (BB1.out.alloc BB1.out.size _)
        refine wpAnyH_ready (rs := [12]) (by kernel_rfl) (by simp) ?_
        refine AllReadyH.cons rfl (fun K hK => ?_) AllReadyH.nil
        go_simp
        with_reducible refine hK.out _ _ ⟨HCp.out, LNp.out⟩ (fun hH3 => ?_)
        clear hK K hH2
        try simp only [Act.put, List.setIfInBounds_toArray, List.set_cons_zero, List.set_cons_succ]
        refine Fe.any_take 13 7 ?vt12 rfl rfl (by kernel_rfl) (by kernel_rfl) (by kernel_rfl) (fun _ _ _ h => h) (by rfl) ?ht12 hH3 ?rt12
        case ht12 => ((intro W hSw); go_simp; (try with_reducible rfl))
        try simp only [Act.put, List.setIfInBounds_toArray, List.set_cons_zero, List.set_cons_succ]
        clear hH3
        refine wpAnyH_done (by kernel_rfl) ?_ _
        refine NoPanic.normal ?_
        go_wp2_with fail
        go_meet
        with_reducible exact ⟨rfl, rfl, _, ⟨yk, .slice E1 AA.k.a.length d1, .slice E2 AA.k.r.length d2⟩, rfl, HP.out, HYp.out, BBp.out⟩
      case ord2 =>
        have HC1 : Hid (Lies (W0.alloc (.cells #[.int .u32 0, .int .i64 0, .bool false, .slice none 0 0, .int .i64 0, .slice none 0 0] 130)).drew b.c 122 #[.pointer (some ⟨b.s.s, 0, none⟩), .pointer (some ⟨b.p.s, 0, none⟩), .pointer (some ⟨b.d.s, 0, none⟩), .int .u32 (q.f.ep : Int), .slice LA q.f.n Lc, b.vE, b.vM]) := Lib.hid (HC0.out.alloc _)
        have LN1 : Hid (Lies (W0.alloc (.cells #[.int .u32 0, .int .i64 0, .bool false, .slice none 0 0, .int .i64 0, .slice none 0 0] 130)).drew w.heap.size 55 #[.int .i64 kd, .int .u32 (e : Int), .int .u32 (ol : Int), .int .u64 (ls : Int), .int .u64 (tk : Int), .int .u32 (od : Int), .int .i64 st, .bool un, .int .i64 cd, .slice A1 ky.length c1, .slice A2 da.length c2]) := Lib.hid (LN0.out.alloc _)
        go_simp
        refine hK.out _ _ ⟨HC1.out, LN1.out⟩ (fun hH1 => ?_)
        clear hK K hH0
        try simp only [Act.put, List.setIfInBounds_toArray, List.set_cons_zero, List.set_cons_succ]
        refine wpAnyH_ready (rs := [5]) (by kernel_rfl) (by simp) ?_
        refine AllReadyH.cons rfl (fun K hK => ?_) AllReadyH.nil
        go_simp
        go_at_call 62
        with_reducible refine (CA.out (W0.alloc (.cells #[.int .u32 0, .int .i64 0, .bool false, .slice none 0 0, .int .i64 0, .slice none 0 0] 130)).drew (BB0.out.alloc BB0.out.size _).drew).mono ?_
        rintro x w1 ⟨y, rfl, hy, hb⟩
        have HBa : Hid (Below (W0.alloc (.cells #[.int .u32 0, .int .i64 0, .bool false, .slice none 0 0, .int .i64 0, .slice none 0 0] 130)).heap.size (W0.alloc (.cells #[.int .u32 0, .int .i64 0, .bool false, .slice none 0 0, .int .i64 0, .slice none 0 0] 130)).drew w1) := Lib.hid hb
        have HY2 : Hid (Fe.NewK w1 W0.heap.size AA.k y) := Lib.hid (hy.mono (by simp))
        have BB2 : Hid (Below W0.heap.size W0 w1) := Lib.hid (Below.trans (Fe.below1 W0 (.cells #[.int .u32 0, .int .i64 0, .bool false, .slice none 0 0, .int .i64 0, .slice none 0 0] 130)).drew (HBa.out.mono (by simp)))
        have HC2 := Lib.hid (HC0.out.below BB2.out HC0.out.lt)
        have LN2 := Lib.hid (LN0.out.below BB2.out LN0.out.lt)
        have LZ : Hid (Lies w1 W0.heap.size 130 #[.int .u32 0, .int .i64 0, .bool false, .slice none 0 0, .int .i64 0, .slice none 0 0]) := Lib.hid (Lies.below (w := (W0.alloc (.cells #[.int .u32 0, .int .i64 0, .bool false, .slice none 0 0, .int .i64 0, .slice none 0 0] 130)).drew) (Lies.made W0 130 _) HBa.out (by simp))
        have HG : Hid (W0.heap.size ≤ W0.heap.size) := Lib.hid (Nat.le_refl _)
        clear hy hb
        refine hK.out _ _ ⟨HC2.out, LN2.out⟩ (fun hH2 => ?_)
        clear hK K hH1
        try simp only [Act.put, List.setIfInBounds_toArray, List.set_cons_zero, List.set_cons_succ]
        refine Fe.any_take 6 13 ?vt13 rfl rfl (by kernel_rfl) (by kernel_rfl) (by kernel_rfl) (fun _ _ _ h => h) (by rfl) ?ht13 hH2 ?rt13
        case ht13 => ((intro W hSw); go_simp; (try with_reducible rfl))
        try simp only [Act.put, List.setIfInBounds_toArray, List.set_cons_zero, List.set_cons_succ]
        refine Fe.any_take 7 20 ?vt14 rfl rfl (by kernel_rfl) (by kernel_rfl) (by kernel_rfl) (fun _ _ _ h => h) (by rfl) ?ht14 hH2 ?rt14
        case ht14 => ((intro W hSw); go_simp; (try with_reducible rfl))
        try simp only [Act.put, List.setIfInBounds_toArray, List.set_cons_zero, List.set_cons_succ]
        refine Fe.any_take 8 21 ?vt15 rfl rfl (by kernel_rfl) (by kernel_rfl) (by kernel_rfl) (fun _ _ _ h => h) (by rfl) ?ht15 hH2 ?rt15
        case ht15 => ((intro W hSw); go_simp; (try with_reducible rfl))
        try simp only [Act.put, List.setIfInBounds_toArray, List.set_cons_zero, List.set_cons_succ]
        refine Fe.any_take 9 22 ?vt16 rfl rfl (by kernel_rfl) (by kernel_rfl) (by kernel_rfl) (fun _ _ _ h => h) (by rfl) ?ht16 hH2 ?rt16
        case ht16 => ((intro W hSw); go_simp; (try with_reducible rfl))
        try simp only [Act.put, List.setIfInBounds_toArray, List.set_cons_zero, List.set_cons_succ]
        refine Fe.any_take 11 5 ?vt17 rfl rfl (by kernel_rfl) (by kernel_rfl) (by kernel_rfl) (fun _ _ _ h => h) (by rfl) ?ht17 hH2 ?rt17
        case ht17 => ((intro W hSw); go_simp; (try with_reducible rfl))
        try simp only [Act.put, List.setIfInBounds_toArray, List.set_cons_zero, List.set_cons_succ]
        obtain ⟨yk, yK, yD⟩ := y
        obtain ⟨E1, d1, z1, -⟩ := HY2.out.2.1.slice
        obtain ⟨E2, d2, z2, -⟩ := HY2.out.2.2.slice
        dsimp only at z1 z2
        subst z1 z2
        obtain ⟨zc0, zc1, zc2, zc3, zc4, zc5⟩ := LZ.out.cells6
        obtain ⟨zf0, zf1, zf2, zf3, zf4, zf5⟩ := LZ.out.free6
        have HP : Hid (Lies (Fe.put6 w1 W0.heap.size (.int .u32 (yk.o : Int)) (.int .i64 yk.s) (.bool yk.u) (.slice E1 AA.k.a.length d1) (.int .i64 yk.c) (.slice E2 AA.k.r.length d2)) W0.heap.size 130 #[.int .u32 (yk.o : Int), .int .i64 yk.s, .bool yk.u, .slice E1 AA.k.a.length d1, .int .i64 yk.c, .slice E2 AA.k.r.length d2]) := Lib.hid (LZ.out.put6 _ _ _ _ _ _)
        have HCp : Hid (Lies (Fe.put6 w1 W0.heap.size (.int .u32 (yk.o : Int)) (.int .i64 yk.s) (.bool yk.u) (.slice E1 AA.k.a.length d1) (.int .i64 yk.c) (.slice E2 AA.k.r.length d2)) b.c 122 #[.pointer (some ⟨b.s.s, 0, none⟩), .pointer (some ⟨b.p.s, 0, none⟩), .pointer (some ⟨b.d.s, 0, none⟩), .int .u32 (q.f.ep : Int), .slice LA q.f.n Lc, b.vE, b.vM]) := Lib.hid (HC2.out.put6_other ((Kb.of HC2.out).ne (Kb.of LZ.out) (by decide)) _ _ _ _ _ _)
        have LNp : Hid (Lies (Fe.put6 w1 W0.heap.size (.int .u32 (yk.o : Int)) (.int .i64 yk.s) (.bool yk.u) (.slice E1 AA.k.a.length d1) (.int .i64 yk.c) (.slice E2 AA.k.r.length d2)) w.heap.size 55 #[.int .i64 kd, .int .u32 (e : Int), .int .u32 (ol : Int), .int .u64 (ls : Int), .int .u64 (tk : Int), .int .u32 (od : Int), .int .i64 st, .bool un, .int .i64 cd, .slice A1 ky.length c1, .slice A2 da.length c2]) := Lib.hid (LN2.out.put6_other ((Kb.of LN2.out).ne (Kb.of LZ.out) (by decide)) _ _ _ _ _ _)
        have HYp : Hid (Fe.NewK (Fe.put6 w1 W0.heap.size (.int .u32 (yk.o : Int)) (.int .i64 yk.s) (.bool yk.u) (.slice E1 AA.k.a.length d1) (.int .i64 yk.c) (.slice E2 AA.k.r.length d2)) W0.heap.size AA.k ⟨yk, .slice E1 AA.k.a.length d1, .slice E2 AA.k.r.length d2⟩) := Lib.hid ⟨HY2.out.1, HY2.out.2.1.put6 LZ.out (by decide) _ _ _ _ _ _, HY2.out.2.2.put6 LZ.out (by decide) _ _ _ _ _ _⟩
        have BBp : Hid (Below W0.heap.size W0 (Fe.put6 w1 W0.heap.size (.int .u32 (yk.o : Int)) (.int .i64 yk.s) (.bool yk.u) (.slice E1 AA.k.a.length d1) (.int .i64 yk.c) (.slice E2 AA.k.r.length d2))) := Lib.hid (Fe.below_put6 BB2.out HG.out _ _ _ _ _ _)
        refine wpAnyH_ready (rs := [12]) (by kernel_rfl) (by simp) ?_
        refine AllReadyH.cons rfl (fun K hK => ?_) AllReadyH.nil
        go_simp
        with_reducible refine hK.out _ _ ⟨HCp.out, LNp.out⟩ (fun hH3 => ?_)
        clear hK K hH2
        try simp only [Act.put, List.setIfInBounds_toArray, List.set_cons_zero, List.set_cons_succ]
        refine Fe.any_take 13 7 ?vt18 rfl rfl (by kernel_rfl) (by kernel_rfl) (by kernel_rfl) (fun _ _ _ h => h) (by rfl) ?ht18 hH3 ?rt18
        case ht18 => ((intro W hSw); go_simp; (try with_reducible rfl))
        try simp only [Act.put, List.setIfInBounds_toArray, List.set_cons_zero, List.set_cons_succ]
        clear hH3
        refine wpAnyH_done (by kernel_rfl) ?_ _
        refine NoPanic.normal ?_
        go_wp2_with fail
        go_meet
        with_reducible exact ⟨rfl, rfl, _, ⟨yk, .slice E1 AA.k.a.length d1, .slice E2 AA.k.r.length d2⟩, rfl, HP.out, HYp.out, BBp.out⟩
  case rest =>
    obtain ⟨rfl, rfl, gk, y, rfl, hKt, hKn, hBy⟩ := hcut
    generalize wc = w2 at *
    have BB2 := Lib.hid (BB0.out.trans (hBy.mono BB0.out.size))
    have HA2 := Lib.hid (HW.out.below BB2.out)
    have LN2 := Lib.hid (LN0.out.below hBy LN0.out.lt)
    have LR2 := Lib.hid (LR0.out.below hBy LR0.out.lt)
    have HC2 := Lib.hid (HC0.out.below hBy HC0.out.lt)
    have LK2 := Lib.hid hKt
    have HK2 := Lib.hid (hKn.mono BB0.out.size)
    have HNR : Hid (¬ b.foot (w.heap.size + 1)) := Lib.hid (fun hf => by have := HW.out.foot_lt hf; omega)
    have HNN : Hid (¬ b.foot w.heap.size) := Lib.hid (fun hf => by have := HW.out.foot_lt hf; omega)
    clear hKt hKn hBy CA HC0 LR0 LN0 HA0 BB0 HW0
    obtain ⟨ea, ek, ee⟩ := AA
    dsimp only at *
    obtain ⟨r0, r1, r2, r3, r4, r5, r6, r7, r8, r9, r10⟩ := LR2.out.cells11
    obtain ⟨s0, s1, s2, s3, s4, s5, s6, s7, s8, s9, s10⟩ := LR2.out.free11
    obtain ⟨m0, m1, m2, m3, m4, m5, m6⟩ := Lies_cells7 HC2.out
    obtain ⟨v0, v1, v2, v3, v4, v5, v6⟩ := Lies_free7 HC2.out
    obtain ⟨x0, x1, x2, x3, x4, x5, x6, x7, x8, x9, x10⟩ := LN2.out.cells11
    rcases HCAS.out with h1 | h1 | h1 | ⟨k, h1, hok, hrq, hlt⟩ | ⟨a, ha, h1, hok, hrq⟩
    · have HSX := Lib.hid (HSV1.out h1)
      injection h1 with e1 e2 e3
      subst e1 e2 e3
      rw [show ((0 : Nat) : Int) = 0 from rfl, show ((2 : Nat) : Int) = 2 from rfl]
      skip
      go_wp2_with fail
      with_reducible refine (no_any 1 w2 HA2.out).mono ?_
      rintro x w3 ⟨rfl, hb⟩
      have LR3 := Lib.hid (LR2.out.below hb LR2.out.lt)
      have HA3 := Lib.hid (HA2.out.below hb)
      have BB3 := Lib.hid (BB2.out.trans (hb.mono BB2.out.size))
      clear hb r0 r1 r2 r3 r4 r5 r6 r7 r8 r9 r10 s0 s1 s2 s3 s4 s5 s6 s7 s8 s9 s10
      obtain ⟨r0, r1, r2, r3, r4, r5, r6, r7, r8, r9, r10⟩ := LR3.out.cells11
      obtain ⟨s0, s1, s2, s3, s4, s5, s6, s7, s8, s9, s10⟩ := LR3.out.free11
      go_wp2
      rw [nest11]
      refine ret_note (w.heap.size + 1) _ rfl rfl (Lies_put11 LR3.out rfl _ _ _ _ _ _ _ _ _ _ _) rfl rfl ?_
      rw [HSX.out]
      exact serve_fin (b' := b) (v := .slice none 0 0) (w.heap.size + 1) LR3.out (Nat.le_succ _) (Own.nil _ _) (fun i hi => by cases hi) rfl HA3.out (Chg.of BB3.out) (fun i hi => .inl hi) HNR.out _ _ _ _ _ _ _ _ _ _ _ rfl
    · have HSX := Lib.hid (HSV2.out h1)
      injection h1 with e1 e2 e3
      subst e1 e2 e3
      rw [show ((0 : Nat) : Int) = 0 from rfl, show ((72 : Nat) : Int) = 72 from rfl]
      go_wp2_with fail
      have HCs : Hid (Lies (n11 w2 (w.heap.size + 1) (.int .i64 9) (.int .u32 (q.f.ep : Int)) (.int .u32 0) (.int .u64 0) (.int .u64 0) (.int .u32 (od : Int)) (.int .i64 st) (.bool un) (.int .i64 0) (.slice none 0 0) (.slice none 0 0)).drew b.c 122 #[.pointer (some ⟨b.s.s, 0, none⟩), .pointer (some ⟨b.p.s, 0, none⟩), .pointer (some ⟨b.d.s, 0, none⟩), .int .u32 (q.f.ep : Int), .slice LA q.f.n Lc, b.vE, b.vM]) := Lib.hid (Lies_drew (Lies_n11 HC2.out (fun e => HNR.out (.inl e.symm)) _ _ _ _ _ _ _ _ _ _ _))
      have LNs : Hid (Lies (n11 w2 (w.heap.size + 1) (.int .i64 9) (.int .u32 (q.f.ep : Int)) (.int .u32 0) (.int .u64 0) (.int .u64 0) (.int .u32 (od : Int)) (.int .i64 st) (.bool un) (.int .i64 0) (.slice none 0 0) (.slice none 0 0)).drew w.heap.size 55 #[.int .i64 kd, .int .u32 (e : Int), .int .u32 (ol : Int), .int .u64 (ls : Int), .int .u64 (tk : Int), .int .u32 (od : Int), .int .i64 st, .bool un, .int .i64 cd, .slice A1 ky.length c1, .slice A2 da.length c2]) := Lib.hid (Lies_drew (Lies_n11 LN2.out (by omega) _ _ _ _ _ _ _ _ _ _ _))
      skip
      refine wp_region_noPanic ?_
      refine wp_region_held_drew (S := fun W => Lies W b.c 122 #[.pointer (some ⟨b.s.s, 0, none⟩), .pointer (some ⟨b.p.s, 0, none⟩), .pointer (some ⟨b.d.s, 0, none⟩), .int .u32 (q.f.ep : Int), .slice LA q.f.n Lc, b.vE, b.vM] ∧ Lies W w.heap.size 55 #[.int .i64 kd, .int .u32 (e : Int), .int .u32 (ol : Int), .int .u64 (ls : Int), .int .u64 (tk : Int), .int .u32 (od : Int), .int .i64 st, .bool un, .int .i64 cd, .slice A1 ky.length c1, .slice A2 da.length c2]) (by kernel_rfl) (⟨HC2.out, LN2.out⟩) (fun hH0 => ?_)
      refine Fe.any_take 0 26 ?vt20 rfl rfl (by kernel_rfl) (by kernel_rfl) (by kernel_rfl) (fun _ _ _ h => h) (by rfl) ?ht20 hH0 ?rt20
      case ht20 => ((intro W hSw); obtain ⟨o0, o1, o2, o3, o4, o5, o6⟩ := Lies_cells7 hSw.1; obtain ⟨p0, p1, p2, p3, p4, p5, p6, p7, p8, p9, p10⟩ := hSw.2.cells11; go_simp; (try with_reducible rfl))
      try simp only [Act.put, List.setIfInBounds_toArray, List.set_cons_zero, List.set_cons_succ]
      refine Fe.any_take 1 27 ?vt21 rfl rfl (by kernel_rfl) (by kernel_rfl) (by kernel_rfl) (fun _ _ _ h => h) (by rfl) ?ht21 hH0 ?rt21
      case ht21 => ((intro W hSw); obtain ⟨o0, o1, o2, o3, o4, o5, o6⟩ := Lies_cells7 hSw.1; obtain ⟨p0, p1, p2, p3, p4, p5, p6, p7, p8, p9, p10⟩ := hSw.2.cells11; go_simp; (try with_reducible rfl))
      try simp only [Act.put, List.setIfInBounds_toArray, List.set_cons_zero, List.set_cons_succ]
      refine Fe.any_take 2 28 ?vt22 rfl rfl (by kernel_rfl) (by kernel_rfl) (by kernel_rfl) (fun _ _ _ h => h) (by rfl) ?ht22 hH0 ?rt22
      case ht22 => ((intro W hSw); obtain ⟨o0, o1, o2, o3, o4, o5, o6⟩ := Lies_cells7 hSw.1; obtain ⟨p0, p1, p2, p3, p4, p5, p6, p7, p8, p9, p10⟩ := hSw.2.cells11; go_simp; (try with_reducible rfl))
      try simp only [Act.put, List.setIfInBounds_toArray, List.set_cons_zero, List.set_cons_succ]
      refine Fe.any_take 3 29 ?vt23 rfl rfl (by kernel_rfl) (by kernel_rfl) (by kernel_rfl) (fun _ _ _ h => h) (by rfl) ?ht23 hH0 ?rt23
      case ht23 => ((intro W hSw); obtain ⟨o0, o1, o2, o3, o4, o5, o6⟩ := Lies_cells7 hSw.1; obtain ⟨p0, p1, p2, p3, p4, p5, p6, p7, p8, p9, p10⟩ := hSw.2.cells11; go_simp; (try with_reducible rfl))
      try simp only [Act.put, List.setIfInBounds_toArray, List.set_cons_zero, List.set_cons_succ]
      refine Fe.any_take 4 30 ?vt24 rfl rfl (by kernel_rfl) (by kernel_rfl) (by kernel_rfl) (fun _ _ _ h => h) (by rfl) ?ht24 hH0 ?rt24
      case ht24 => ((intro W hSw); obtain ⟨o0, o1, o2, o3, o4, o5, o6⟩ := Lies_cells7 hSw.1; obtain ⟨p0, p1, p2, p3, p4, p5, p6, p7, p8, p9, p10⟩ := hSw.2.cells11; go_simp; (try with_reducible rfl))
      try simp only [Act.put, List.setIfInBounds_toArray, List.set_cons_zero, List.set_cons_succ]
      refine Fe.any_take 5 31 ?vt25 rfl rfl (by kernel_rfl) (by kernel_rfl) (by kernel_rfl) (fun _ _ _ h => h) (by rfl) ?ht25 hH0 ?rt25
      case ht25 => ((intro W hSw); obtain ⟨o0, o1, o2, o3, o4, o5, o6⟩ := Lies_cells7 hSw.1; obtain ⟨p0, p1, p2, p3, p4, p5, p6, p7, p8, p9, p10⟩ := hSw.2.cells11; go_simp; (try with_reducible rfl))
      try simp only [Act.put, List.setIfInBounds_toArray, List.set_cons_zero, List.set_cons_succ]
      refine Fe.any_take 6 32 ?vt26 rfl rfl (by kernel_rfl) (by kernel_rfl) (by kernel_rfl) (fun _ _ _ h => h) (by rfl) ?ht26 hH0 ?rt26
      case ht26 => ((intro W hSw); obtain ⟨o0, o1, o2, o3, o4, o5, o6⟩ := Lies_cells7 hSw.1; obtain ⟨p0, p1, p2, p3, p4, p5, p6, p7, p8, p9, p10⟩ := hSw.2.cells11; go_simp; (try with_reducible rfl))
      try simp only [Act.put, List.setIfInBounds_toArray, List.set_cons_zero, List.set_cons_succ]
      refine Fe.any_take 7 33 ?vt27 rfl rfl (by kernel_rfl) (by kernel_rfl) (by kernel_rfl) (fun _ _ _ h => h) (by rfl) ?ht27 hH0 ?rt27
      case ht27 => ((intro W hSw); obtain ⟨o0, o1, o2, o3, o4, o5, o6⟩ := Lies_cells7 hSw.1; obtain ⟨p0, p1, p2, p3, p4, p5, p6, p7, p8, p9, p10⟩ := hSw.2.cells11; go_simp; (try with_reducible rfl))
      try simp only [Act.put, List.setIfInBounds_toArray, List.set_cons_zero, List.set_cons_succ]
      refine Fe.any_take 8 34 ?vt28 rfl rfl (by kernel_rfl) (by kernel_rfl) (by kernel_rfl) (fun _ _ _ h => h) (by rfl) ?ht28 hH0 ?rt28
      case ht28 => ((intro W hSw); obtain ⟨o0, o1, o2, o3, o4, o5, o6⟩ := Lies_cells7 hSw.1; obtain ⟨p0, p1, p2, p3, p4, p5, p6, p7, p8, p9, p10⟩ := hSw.2.cells11; go_simp; (try with_reducible rfl))
      try simp only [Act.put, List.setIfInBounds_toArray, List.set_cons_zero, List.set_cons_succ]
      refine Fe.any_take 9 35 ?vt29 rfl rfl (by kernel_rfl) (by kernel_rfl) (by kernel_rfl) (fun _ _ _ h => h) (by rfl) ?ht29 hH0 ?rt29
      case ht29 => ((intro W hSw); obtain ⟨o0, o1, o2, o3, o4, o5, o6⟩ := Lies_cells7 hSw.1; obtain ⟨p0, p1, p2, p3, p4, p5, p6, p7, p8, p9, p10⟩ := hSw.2.cells11; go_simp; (try with_reducible rfl))
      try simp only [Act.put, List.setIfInBounds_toArray, List.set_cons_zero, List.set_cons_succ]
      refine Fe.any_take 10 36 ?vt30 rfl rfl (by kernel_rfl) (by kernel_rfl) (by kernel_rfl) (fun _ _ _ h => h) (by rfl) ?ht30 hH0 ?rt30
      case ht30 => ((intro W hSw); obtain ⟨o0, o1, o2, o3, o4, o5, o6⟩ := Lies_cells7 hSw.1; obtain ⟨p0, p1, p2, p3, p4, p5, p6, p7, p8, p9, p10⟩ := hSw.2.cells11; go_simp; (try with_reducible rfl))
      try simp only [Act.put, List.setIfInBounds_toArray, List.set_cons_zero, List.set_cons_succ]
      refine Fe.any_take 11 37 ?vt31 rfl rfl (by kernel_rfl) (by kernel_rfl) (by kernel_rfl) (fun _ _ _ h => h) (by rfl) ?ht31 hH0 ?rt31
      case ht31 => ((intro W hSw); obtain ⟨o0, o1, o2, o3, o4, o5, o6⟩ := Lies_cells7 hSw.1; obtain ⟨p0, p1, p2, p3, p4, p5, p6, p7, p8, p9, p10⟩ := hSw.2.cells11; go_simp; (try with_reducible rfl))
      try simp only [Act.put, List.setIfInBounds_toArray, List.set_cons_zero, List.set_cons_succ]
      refine wpAnyH_ready (rs := [12]) (by kernel_rfl) (by simp) ?_
      refine AllReadyH.cons rfl (fun K hK => ?_) AllReadyH.nil
      go_simp
      with_reducible refine hK.out _ _ ⟨HCs.out, LNs.out⟩ (fun hH1 => ?_)
      clear hK K hH0
      try simp only [Act.put, List.setIfInBounds_toArray, List.set_cons_zero, List.set_cons_succ]
      clear hH1
      refine wpAnyH_done (by kernel_rfl) ?_ _
      refine NoPanic.normal ?_
      go_wp2
      rw [nest11]
      refine ret_note (w.heap.size + 1) _ rfl rfl (Lies_drew (Lies_put11 LR2.out rfl _ _ _ _ _ _ _ _ _ _ _)) rfl rfl ?_
      rw [HSX.out]
      exact (serve_fin (b' := b) (v := .slice none 0 0) (w.heap.size + 1) LR2.out (Nat.le_succ _) (Own.nil _ _) (fun i hi => by cases hi) rfl HA2.out (Chg.of BB2.out) (fun i hi => .inl hi) HNR.out _ _ _ _ _ _ _ _ _ _ _ rfl).drew
    · have HSX := Lib.hid (HSV3.out h1)
      injection h1 with e1 e2 e3
      subst e1 e2 e3
      rw [show ((0 : Nat) : Int) = 0 from rfl, show ((80 : Nat) : Int) = 80 from rfl]
      skip
      go_wp2_with fail
      with_reducible refine (no_any 2 w2 HA2.out).mono ?_
      rintro x w3 ⟨rfl, hb⟩
      have LR3 := Lib.hid (LR2.out.below hb LR2.out.lt)
      have HA3 := Lib.hid (HA2.out.below hb)
      have BB3 := Lib.hid (BB2.out.trans (hb.mono BB2.out.size))
      clear hb r0 r1 r2 r3 r4 r5 r6 r7 r8 r9 r10 s0 s1 s2 s3 s4 s5 s6 s7 s8 s9 s10
      obtain ⟨r0, r1, r2, r3, r4, r5, r6, r7, r8, r9, r10⟩ := LR3.out.cells11
      obtain ⟨s0, s1, s2, s3, s4, s5, s6, s7, s8, s9, s10⟩ := LR3.out.free11
      go_wp2
      rw [nest11]
      refine ret_note (w.heap.size + 1) _ rfl rfl (Lies_put11 LR3.out rfl _ _ _ _ _ _ _ _ _ _ _) rfl rfl ?_
      rw [HSX.out]
      exact serve_fin (b' := b) (v := .slice none 0 0) (w.heap.size + 1) LR3.out (Nat.le_succ _) (Own.nil _ _) (fun i hi => by cases hi) rfl HA3.out (Chg.of BB3.out) (fun i hi => .inl hi) HNR.out _ _ _ _ _ _ _ _ _ _ _ rfl
    · have HSX := Lib.hid (HSV4.out k h1)
      injection h1 with e1 e2 e3
      subst e1 e2 e3
      have HSEE := Lib.hid (see_ok hok hlt)
      have LN2d : Hid (Lies w2.drew w.heap.size 55 #[.int .i64 kd, .int .u32 (e : Int), .int .u32 (ol : Int), .int .u64 (ls : Int), .int .u64 (tk : Int), .int .u32 (od : Int), .int .i64 st, .bool un, .int .i64 cd, .slice A1 ky.length c1, .slice A2 da.length c2]) := Lib.hid LN2.out
      obtain ⟨yk, yK, yD⟩ := y
      have hk2 := HK2.out
      obtain ⟨hy1, hy2, hy3⟩ := hk2
      dsimp only at hy1 hy2 hy3
      subst hy1
      obtain ⟨E2, d2, z2, -⟩ := hy3.slice
      subst z2
      have HD2 := Lib.hid hy3
      clear hy2 hy3
      have LK3 : Hid (Lies w2 gk 130 #[.int .u32 (yk.o : Int), .int .i64 yk.s, .bool yk.u, yK, .int .i64 yk.c, .slice E2 yk.r.length d2]) := Lib.hid LK2.out
      obtain ⟨k0, k1, k2, k3, k4, k5⟩ := LK3.out.cells6
      rw [show ((2 : Nat) : Int) = 2 from rfl, show ((0 : Nat) : Int) = 0 from rfl]
      go_wp2_with fail
      refine wp_region_noPanic ?_
      refine wp_region_held_drew (S := fun W => Lies W w.heap.size 55 #[.int .i64 kd, .int .u32 (e : Int), .int .u32 (ol : Int), .int .u64 (ls : Int), .int .u64 (tk : Int), .int .u32 (od : Int), .int .i64 st, .bool un, .int .i64 cd, .slice A1 ky.length c1, .slice A2 da.length c2]) (by kernel_rfl) (LN2.out) (fun hH0 => ?_)
      refine Fe.any_take 0 52 ?vt33 rfl rfl (by kernel_rfl) (by kernel_rfl) (by kernel_rfl) (fun _ _ _ h => h) (by rfl) ?ht33 hH0 ?rt33
      case ht33 => ((intro W hSw); obtain ⟨p0, p1, p2, p3, p4, p5, p6, p7, p8, p9, p10⟩ := hSw.cells11; go_simp; (try with_reducible rfl))
      try simp only [Act.put, List.setIfInBounds_toArray, List.set_cons_zero, List.set_cons_succ]
      refine Fe.any_take 1 53 ?vt34 rfl rfl (by kernel_rfl) (by kernel_rfl) (by kernel_rfl) (fun _ _ _ h => h) (by rfl) ?ht34 hH0 ?rt34
      case ht34 => ((intro W hSw); obtain ⟨p0, p1, p2, p3, p4, p5, p6, p7, p8, p9, p10⟩ := hSw.cells11; go_simp; (try with_reducible rfl))
      try simp only [Act.put, List.setIfInBounds_toArray, List.set_cons_zero, List.set_cons_succ]
      refine Fe.any_take 2 54 ?vt35 rfl rfl (by kernel_rfl) (by kernel_rfl) (by kernel_rfl) (fun _ _ _ h => h) (by rfl) ?ht35 hH0 ?rt35
      case ht35 => ((intro W hSw); obtain ⟨p0, p1, p2, p3, p4, p5, p6, p7, p8, p9, p10⟩ := hSw.cells11; go_simp; (try with_reducible rfl))
      try simp only [Act.put, List.setIfInBounds_toArray, List.set_cons_zero, List.set_cons_succ]
      refine Fe.any_take 3 55 ?vt36 rfl rfl (by kernel_rfl) (by kernel_rfl) (by kernel_rfl) (fun _ _ _ h => h) (by rfl) ?ht36 hH0 ?rt36
      case ht36 => ((intro W hSw); obtain ⟨p0, p1, p2, p3, p4, p5, p6, p7, p8, p9, p10⟩ := hSw.cells11; go_simp; (try with_reducible rfl))
      try simp only [Act.put, List.setIfInBounds_toArray, List.set_cons_zero, List.set_cons_succ]
      refine Fe.any_take 5 57 ?vt37 rfl rfl (by kernel_rfl) (by kernel_rfl) (by kernel_rfl) (fun _ _ _ h => h) (by rfl) ?ht37 hH0 ?rt37
      case ht37 => ((intro W hSw); obtain ⟨p0, p1, p2, p3, p4, p5, p6, p7, p8, p9, p10⟩ := hSw.cells11; go_simp; (try with_reducible rfl))
      try simp only [Act.put, List.setIfInBounds_toArray, List.set_cons_zero, List.set_cons_succ]
      refine Fe.any_take 6 58 ?vt38 rfl rfl (by kernel_rfl) (by kernel_rfl) (by kernel_rfl) (fun _ _ _ h => h) (by rfl) ?ht38 hH0 ?rt38
      case ht38 => ((intro W hSw); obtain ⟨p0, p1, p2, p3, p4, p5, p6, p7, p8, p9, p10⟩ := hSw.cells11; go_simp; (try with_reducible rfl))
      try simp only [Act.put, List.setIfInBounds_toArray, List.set_cons_zero, List.set_cons_succ]
      refine wpAnyH_ready (rs := [4]) (by kernel_rfl) (by simp) ?_
      refine AllReadyH.cons rfl (fun K hK => ?_) AllReadyH.nil
      go_simp
      with_reducible refine hK.out _ _ LN2d.out (fun hH1 => ?_)
      clear hK K hH0
      try simp only [Act.put, List.setIfInBounds_toArray, List.set_cons_zero, List.set_cons_succ]
      refine wpAnyH_ready (rs := [7]) (by kernel_rfl) (by simp) ?_
      refine AllReadyH.cons rfl (fun K hK => ?_) AllReadyH.nil
      go_simp
      go_at_call 64
      with_reducible refine (CS.out w2.drew BB2.out.drew).mono ?_
      rintro x w3 ⟨v, X, he, hnf, hx, hb⟩
      rw [HSEE.out.1, HSEE.out.2] at he
      rw [HSEE.out.2] at hnf hx
      subst he
      have HB3 : Hid (Below w2.heap.size w2 w3) := Lib.hid (Below.trans (Below.drew (Below.refl _ _)) hb)
      have HNF3 : Hid (NF w3 w2.heap.size v q.f.n X) := Lib.hid hnf
      have HX3 := Lib.hid hx
      have LN3 := Lib.hid (LN2.out.below HB3.out LN2.out.lt)
      have LR3 := Lib.hid (LR2.out.below HB3.out LR2.out.lt)
      have LK4 := Lib.hid (LK3.out.below HB3.out LK3.out.lt)
      have HC3 := Lib.hid (HC2.out.below HB3.out HC2.out.lt)
      have HD3 := Lib.hid (HD2.out.belowOwn HB3.out)
      clear hnf hx hb
      clear m0 m1 m2 m3 m4 m5 m6 v0 v1 v2 v3 v4 v5 v6
      obtain ⟨m0, m1, m2, m3, m4, m5, m6⟩ := Lies_cells7 HC3.out
      obtain ⟨v0, v1, v2, v3, v4, v5, v6⟩ := Lies_free7 HC3.out
      obtain ⟨vA, vc, rfl, -⟩ := HNF3.out.row.slice
      refine hK.out _ _ (LN3.out) (fun hH2 => ?_)
      clear hK K hH1
      try simp only [Act.put, List.setIfInBounds_toArray, List.set_cons_zero, List.set_cons_succ]
      refine Fe.any_take 8 51 ?vt39 rfl rfl (by kernel_rfl) (by kernel_rfl) (by kernel_rfl) (fun _ _ _ h => h) (by rfl) ?ht39 hH2 ?rt39
      case ht39 => ((intro W hSw); go_simp; (try with_reducible rfl))
      try simp only [Act.put, List.setIfInBounds_toArray, List.set_cons_zero, List.set_cons_succ]
      refine Fe.any_take 9 60 ?vt40 rfl rfl (by kernel_rfl) (by kernel_rfl) (by kernel_rfl) (fun _ _ _ h => h) (by rfl) ?ht40 hH2 ?rt40
      case ht40 => ((intro W hSw); go_simp; (try with_reducible rfl))
      try simp only [Act.put, List.setIfInBounds_toArray, List.set_cons_zero, List.set_cons_succ]
      refine Fe.any_take 10 61 ?vt41 rfl rfl (by kernel_rfl) (by kernel_rfl) (by kernel_rfl) (fun _ _ _ h => h) (by rfl) ?ht41 hH2 ?rt41
      case ht41 => ((intro W hSw); go_simp; (try with_reducible rfl))
      try simp only [Act.put, List.setIfInBounds_toArray, List.set_cons_zero, List.set_cons_succ]
      refine Fe.any_take 11 62 ?vt42 rfl rfl (by kernel_rfl) (by kernel_rfl) (by kernel_rfl) (fun _ _ _ h => h) (by rfl) ?ht42 hH2 ?rt42
      case ht42 => ((intro W hSw); go_simp; (try with_reducible rfl))
      try simp only [Act.put, List.setIfInBounds_toArray, List.set_cons_zero, List.set_cons_succ]
      refine Fe.any_take 12 63 ?vt43 rfl rfl (by kernel_rfl) (by kernel_rfl) (by kernel_rfl) (fun _ _ _ h => h) (by rfl) ?ht43 hH2 ?rt43
      case ht43 => ((intro W hSw); go_simp; (try with_reducible rfl))
      try simp only [Act.put, List.setIfInBounds_toArray, List.set_cons_zero, List.set_cons_succ]
      have HFS := Lib.hid (HA2.out.setF (ep := e) HB3.out HNF3.out HX3.out)
      have HNG : Hid (w.heap.size ≠ b.c) := Lib.hid (fun e => HNN.out (.inl e))
      have HNG2 : Hid (w.heap.size + 1 ≠ b.c) := Lib.hid (fun e => HNR.out (.inl e))
      have LN4 : Hid (Lies (putF w3 b.c (.int .u32 (e : Int)) (.slice vA q.f.n vc)) w.heap.size 55 #[.int .i64 kd, .int .u32 (e : Int), .int .u32 (ol : Int), .int .u64 (ls : Int), .int .u64 (tk : Int), .int .u32 (od : Int), .int .i64 st, .bool un, .int .i64 cd, .slice A1 ky.length c1, .slice A2 da.length c2]) := Lib.hid ((LN3.out.other (a := ⟨b.c, 3, none⟩) HNG.out _).other (a := ⟨b.c, 4, none⟩) HNG.out _)
      have LR4 : Hid (Lies (putF w3 b.c (.int .u32 (e : Int)) (.slice vA q.f.n vc)) (w.heap.size + 1) 55 NZ) := Lib.hid ((LR3.out.other (a := ⟨b.c, 3, none⟩) HNG2.out _).other (a := ⟨b.c, 4, none⟩) HNG2.out _)
      have HNK : Hid (gk ≠ b.c) := Lib.hid (fun e => (Kb.of LK2.out).ne HA2.out.kc (by decide) e)
      have LK5 : Hid (Lies (putF w3 b.c (.int .u32 (e : Int)) (.slice vA q.f.n vc)) gk 130 #[.int .u32 (yk.o : Int), .int .i64 yk.s, .bool yk.u, yK, .int .i64 yk.c, .slice E2 yk.r.length d2]) := Lib.hid ((LK4.out.other (a := ⟨b.c, 3, none⟩) HNK.out _).other (a := ⟨b.c, 4, none⟩) HNK.out _)
      have HD4 : Hid (Own (putF w3 b.c (.int .u32 (e : Int)) (.slice vA q.f.n vc)) w.heap.size (.slice E2 yk.r.length d2) yk.r) := Lib.hid (Own_same HD3.out fun i hi => by have hn : i ≠ b.c := (Kb.row HD3.out.1 hi).ne (HA2.out.below HB3.out).kc (by decide); exact (heap_setCell_other _ ⟨b.c, 4, none⟩ i _ hn).trans (heap_setCell_other _ ⟨b.c, 3, none⟩ i _ hn))
      refine wpAnyH_ready (rs := [13]) (by kernel_rfl) (by simp) ?_
      refine AllReadyH.cons rfl (fun K hK => ?_) AllReadyH.nil
      go_simp
      with_reducible refine hK.out _ _ LN4.out (fun hH3 => ?_)
      clear hK K hH2
      try simp only [Act.put, List.setIfInBounds_toArray, List.set_cons_zero, List.set_cons_succ]
      clear hH3
      refine wpAnyH_done (by kernel_rfl) ?_ _
      refine NoPanic.normal ?_
      obtain ⟨w4, hw4⟩ : ∃ w4, w4 = putF w3 b.c (.int .u32 (e : Int)) (.slice vA q.f.n vc) := ⟨_, rfl⟩
      have HW4 : Hid ((w3.setCell ⟨b.c, 3, none⟩ (.int .u32 (e : Int))).setCell ⟨b.c, 4, none⟩ (.slice vA q.f.n vc) = w4) := Lib.hid hw4.symm
      rw [← hw4] at LN4 LR4 LK5 HD4 HFS
      clear hw4
      rw [HW4.out]
      clear r0 r1 r2 r3 r4 r5 r6 r7 r8 r9 r10 s0 s1 s2 s3 s4 s5 s6 s7 s8 s9 s10
      clear m0 m1 m2 m3 m4 m5 m6 v0 v1 v2 v3 v4 v5 v6
      clear x0 x1 x2 x3 x4 x5 x6 x7 x8 x9 x10
      clear k0 k1 k2 k3 k4 k5
      obtain ⟨r0, r1, r2, r3, r4, r5, r6, r7, r8, r9, r10⟩ := LR4.out.cells11
      obtain ⟨s0, s1, s2, s3, s4, s5, s6, s7, s8, s9, s10⟩ := LR4.out.free11
      obtain ⟨x0, x1, x2, x3, x4, x5, x6, x7, x8, x9, x10⟩ := LN4.out.cells11
      obtain ⟨k0, k1, k2, k3, k4, k5⟩ := LK5.out.cells6
      go_wp2_with fail
      with_reducible refine (done_any kd e ol ls tk od st un cd _ _ yk.c E2 yk.r.length d2 w4).mono ?_
      rintro x w5 ⟨rfl, hb⟩
      have LR5 := Lib.hid (LR4.out.below hb LR4.out.lt)
      have HD5 := Lib.hid (HD4.out.belowOwn hb)
      have HA5 := Lib.hid (HFS.out.1.below hb)
      have HCh5 := Lib.hid ((Chg.of BB2.out (F := b.foot)).trans (HFS.out.2.1.trans (Chg.of hb (F := b.foot)) (fun i hi => .inl hi)) (fun i hi => .inl hi))
      clear hb
      clear r0 r1 r2 r3 r4 r5 r6 r7 r8 r9 r10 s0 s1 s2 s3 s4 s5 s6 s7 s8 s9 s10
      obtain ⟨r0, r1, r2, r3, r4, r5, r6, r7, r8, r9, r10⟩ := LR5.out.cells11
      obtain ⟨s0, s1, s2, s3, s4, s5, s6, s7, s8, s9, s10⟩ := LR5.out.free11
      go_wp2
      rw [nest11]
      refine ret_note (w.heap.size + 1) _ rfl rfl (Lies_put11 LR5.out rfl _ _ _ _ _ _ _ _ _ _ _) rfl rfl ?_
      rw [HSX.out, HSEE.out.2]
      have hff : ∀ i, ({ b with n := q.f.n, vL := .slice vA q.f.n vc, X := X } : CB).foot i → b.foot i ∨ w.heap.size ≤ i := fun i hi => (HFS.out.2.2 i hi).elim .inl (fun h => .inr (Nat.le_trans BB2.out.size h))
      exact serve_fin (b := b) (s := ⟨doneN ⟨kd, e, ol, ls, tk, od, st, un, cd, ky, da⟩ yk.c yk.r, { q with f := ⟨e, q.f.n, q.f.T⟩ }⟩) (b' := { b with n := q.f.n, vL := .slice vA q.f.n vc, X := X }) (v := .slice E2 yk.r.length d2) (w.heap.size + 1) LR5.out (Nat.le_succ _) HD5.out (fun i hi hf => (HFS.out.2.2 i hf).elim (fun h => by have h1 := HD2.out.block i hi; have h2 := HW.out.foot_lt h; omega) (fun h => by have h1 := HD2.out.lt i hi; omega)) rfl HA5.out HCh5.out hff (fun hf => (HFS.out.2.2 _ hf).elim (fun h => HNR.out h) (fun h => by have h1 := LR2.out.lt; omega)) _ _ _ _ _ _ _ _ _ _ _ rfl
    · by_cases hn2 : q.f.n = 200
      · have HSX := Lib.hid (HSV5.out a ha h1 hn2)
        injection h1 with e1 e2 e3
        have d20 : ((q.f.n : Int) == 200) = true := by rw [hn2]; rfl
        have d21 : decide ((q.f.n : Int) = 200) = true := by rw [hn2]; rfl
        have da2 : ((ea : Int) == 2) = false := by rw [beq_eq_false_iff_ne]; omega
        subst e3
        rw [show ((0 : Nat) : Int) = 0 from rfl]
        skip
        go_wp2_with fail
        with_reducible refine (no_any 3 w2 HA2.out).mono ?_
        rintro x w3 ⟨rfl, hb⟩
        have LR3 := Lib.hid (LR2.out.below hb LR2.out.lt)
        have HA3 := Lib.hid (HA2.out.below hb)
        have BB3 := Lib.hid (BB2.out.trans (hb.mono BB2.out.size))
        clear hb r0 r1 r2 r3 r4 r5 r6 r7 r8 r9 r10 s0 s1 s2 s3 s4 s5 s6 s7 s8 s9 s10
        obtain ⟨r0, r1, r2, r3, r4, r5, r6, r7, r8, r9, r10⟩ := LR3.out.cells11
        obtain ⟨s0, s1, s2, s3, s4, s5, s6, s7, s8, s9, s10⟩ := LR3.out.free11
        go_wp2
        rw [nest11]
        refine ret_note (w.heap.size + 1) _ rfl rfl (Lies_put11 LR3.out rfl _ _ _ _ _ _ _ _ _ _ _) rfl rfl ?_
        rw [HSX.out]
        exact serve_fin (b' := b) (v := .slice none 0 0) (w.heap.size + 1) LR3.out (Nat.le_succ _) (Own.nil _ _) (fun i hi => by cases hi) rfl HA3.out (Chg.of BB3.out) (fun i hi => .inl hi) HNR.out _ _ _ _ _ _ _ _ _ _ _ rfl
      · have HSX := Lib.hid (HSV6.out a ha h1 hn2)
        have HKE := Lib.hid ((HDC.out a ha).2.2 h1 hn2)
        have HDV := Lib.hid (And.intro (HDC.out a ha).1 (HDC.out a ha).2.1)
        injection h1 with e1 e2 e3
        have d20 : ((q.f.n : Int) == 200) = false := by rw [beq_eq_false_iff_ne]; omega
        have da2 : ((ea : Int) == 2) = false := by rw [beq_eq_false_iff_ne]; omega
        have CDx := Lib.hid (CDd.out a ha w2 BB2.out)
        have HQF := Lib.hid (decide_f q a ⟨kd, e, ol, ls, tk, od, st, un, cd, ky, da⟩)
        obtain ⟨RR, hRR⟩ : ∃ r, decideS q a ⟨kd, e, ol, ls, tk, od, st, un, cd, ky, da⟩ = r := ⟨_, rfl⟩
        rw [hRR] at CDx HQF HSX HKE HDV
        unfold WkPost at CDx
        subst e3
        subst e1
        rw [show ((0 : Nat) : Int) = 0 from rfl]
        go_wp2_with fail
        with_reducible refine CDx.out.mono ?_
        rintro x w3 ⟨v, b', rfl, hv, hvf, hc, hA, hC, hf⟩
        have HV3 := Lib.hid (hv.mono BB2.out.size)
        have HVF3 := Lib.hid hvf
        have HCC := Lib.hid hc
        have HA3 := Lib.hid hA
        have HCh3 := Lib.hid ((Chg.of BB2.out (F := b.foot)).trans hC fun i hi => .inl hi)
        have HF3 : Hid (∀ i, b'.foot i → b.foot i ∨ w.heap.size ≤ i) := Lib.hid (fun i hi => (hf i hi).elim .inl (fun h => .inr (Nat.le_trans BB2.out.size h)))
        have HF3w : Hid (∀ i, b'.foot i → b.foot i ∨ w2.heap.size ≤ i) := Lib.hid hf
        have LN3 : Hid (Lies w3 w.heap.size 55 #[.int .i64 kd, .int .u32 (e : Int), .int .u32 (ol : Int), .int .u64 (ls : Int), .int .u64 (tk : Int), .int .u32 (od : Int), .int .i64 st, .bool un, .int .i64 cd, .slice A1 ky.length c1, .slice A2 da.length c2]) := Lib.hid ((hC.block _ LN2.out.lt HNN.out).trans LN2.out)
        have LR3 : Hid (Lies w3 (w.heap.size + 1) 55 NZ) := Lib.hid ((hC.block _ LR2.out.lt HNR.out).trans LR2.out)
        have HNw3 : Hid (Fe.EntV w3 ⟨kd, e, ol, ls, tk, od, st, un, cd, ky, da⟩ A1 A2 c1 c2) := Lib.hid (HNW.out w3 HCh3.out)
        obtain ⟨LA3, Lc3, hvL3, hfv3⟩ := hA.f.fv hA.fx
        rw [hA.fn, HQF.out] at hvL3 hfv3
        have HFV3 := Lib.hid hfv3
        have HC3 : Hid (Lies w3 b.c 122 #[.pointer (some ⟨b'.s.s, 0, none⟩), .pointer (some ⟨b'.p.s, 0, none⟩), .pointer (some ⟨b'.d.s, 0, none⟩), .int .u32 (q.f.ep : Int), .slice LA3 q.f.n Lc3, b'.vE, b'.vM]) := Lib.hid (by rw [← hvL3, ← HCC.out, ← HQF.out]; exact hA.c)
        obtain ⟨A3, c3, rfl, hv1, hv2, hv3, hv4⟩ := hv.slice
        have HRB := Lib.hid hv1
        have HRL := Lib.hid (And.intro hv2 (And.intro hv3 hv4))
        clear hv hvf hc hA hC hf hfv3 hv1 hv2 hv3 hv4 hRR CDx
        clear r0 r1 r2 r3 r4 r5 r6 r7 r8 r9 r10 s0 s1 s2 s3 s4 s5 s6 s7 s8 s9 s10
        clear m0 m1 m2 m3 m4 m5 m6 v0 v1 v2 v3 v4 v5 v6
        clear x0 x1 x2 x3 x4 x5 x6 x7 x8 x9 x10
        obtain ⟨m0, m1, m2, m3, m4, m5, m6⟩ := Lies_cells7 HC3.out
        obtain ⟨v0, v1, v2, v3, v4, v5, v6⟩ := Lies_free7 HC3.out
        obtain ⟨r0, r1, r2, r3, r4, r5, r6, r7, r8, r9, r10⟩ := LR3.out.cells11
        obtain ⟨s0, s1, s2, s3, s4, s5, s6, s7, s8, s9, s10⟩ := LR3.out.free11
        obtain ⟨x0, x1, x2, x3, x4, x5, x6, x7, x8, x9, x10⟩ := LN3.out.cells11
        go_wp2_with fail
        refine wp_region_noPanic ?_
        refine wp_region_held_drew (S := fun W => Lies W w.heap.size 55 #[.int .i64 kd, .int .u32 (e : Int), .int .u32 (ol : Int), .int .u64 (ls : Int), .int .u64 (tk : Int), .int .u32 (od : Int), .int .i64 st, .bool un, .int .i64 cd, .slice A1 ky.length c1, .slice A2 da.length c2]) (by kernel_rfl) (LN3.out) (fun hH0 => ?_)
        refine Fe.any_take 0 88 ?vt45 rfl rfl (by kernel_rfl) (by kernel_rfl) (by kernel_rfl) (fun _ _ _ h => h) (by rfl) ?ht45 hH0 ?rt45
        case ht45 => ((intro W hSw); obtain ⟨p0, p1, p2, p3, p4, p5, p6, p7, p8, p9, p10⟩ := hSw.cells11; go_simp; (try with_reducible rfl))
        try simp only [Act.put, List.setIfInBounds_toArray, List.set_cons_zero, List.set_cons_succ]
        refine Fe.any_take 1 89 ?vt46 rfl rfl (by kernel_rfl) (by kernel_rfl) (by kernel_rfl) (fun _ _ _ h => h) (by rfl) ?ht46 hH0 ?rt46
        case ht46 => ((intro W hSw); obtain ⟨p0, p1, p2, p3, p4, p5, p6, p7, p8, p9, p10⟩ := hSw.cells11; go_simp; (try with_reducible rfl))
        try simp only [Act.put, List.setIfInBounds_toArray, List.set_cons_zero, List.set_cons_succ]
        refine Fe.any_take 2 90 ?vt47 rfl rfl (by kernel_rfl) (by kernel_rfl) (by kernel_rfl) (fun _ _ _ h => h) (by rfl) ?ht47 hH0 ?rt47
        case ht47 => ((intro W hSw); obtain ⟨p0, p1, p2, p3, p4, p5, p6, p7, p8, p9, p10⟩ := hSw.cells11; go_simp; (try with_reducible rfl))
        try simp only [Act.put, List.setIfInBounds_toArray, List.set_cons_zero, List.set_cons_succ]
        refine Fe.any_take 3 91 ?vt48 rfl rfl (by kernel_rfl) (by kernel_rfl) (by kernel_rfl) (fun _ _ _ h => h) (by rfl) ?ht48 hH0 ?rt48
        case ht48 => ((intro W hSw); obtain ⟨p0, p1, p2, p3, p4, p5, p6, p7, p8, p9, p10⟩ := hSw.cells11; go_simp; (try with_reducible rfl))
        try simp only [Act.put, List.setIfInBounds_toArray, List.set_cons_zero, List.set_cons_succ]
        refine Fe.any_take 5 93 ?vt49 rfl rfl (by kernel_rfl) (by kernel_rfl) (by kernel_rfl) (fun _ _ _ h => h) (by rfl) ?ht49 hH0 ?rt49
        case ht49 => ((intro W hSw); obtain ⟨p0, p1, p2, p3, p4, p5, p6, p7, p8, p9, p10⟩ := hSw.cells11; go_simp; (try with_reducible rfl))
        try simp only [Act.put, List.setIfInBounds_toArray, List.set_cons_zero, List.set_cons_succ]
        refine Fe.any_take 6 94 ?vt50 rfl rfl (by kernel_rfl) (by kernel_rfl) (by kernel_rfl) (fun _ _ _ h => h) (by rfl) ?ht50 hH0 ?rt50
        case ht50 => ((intro W hSw); obtain ⟨p0, p1, p2, p3, p4, p5, p6, p7, p8, p9, p10⟩ := hSw.cells11; go_simp; (try with_reducible rfl))
        try simp only [Act.put, List.setIfInBounds_toArray, List.set_cons_zero, List.set_cons_succ]
        refine Fe.any_take 7 95 ?vt51 rfl rfl (by kernel_rfl) (by kernel_rfl) (by kernel_rfl) (fun _ _ _ h => h) (by rfl) ?ht51 hH0 ?rt51
        case ht51 => ((intro W hSw); obtain ⟨p0, p1, p2, p3, p4, p5, p6, p7, p8, p9, p10⟩ := hSw.cells11; go_simp; (try with_reducible rfl))
        try simp only [Act.put, List.setIfInBounds_toArray, List.set_cons_zero, List.set_cons_succ]
        have LN3d : Hid (Lies w3.drew w.heap.size 55 #[.int .i64 kd, .int .u32 (e : Int), .int .u32 (ol : Int), .int .u64 (ls : Int), .int .u64 (tk : Int), .int .u32 (od : Int), .int .i64 st, .bool un, .int .i64 cd, .slice A1 ky.length c1, .slice A2 da.length c2]) := Lib.hid LN3.out
        refine wpAnyH_ready (rs := [4]) (by kernel_rfl) (by simp) ?_
        refine AllReadyH.cons rfl (fun K hK => ?_) AllReadyH.nil
        go_simp
        with_reducible refine hK.out _ _ LN3d.out (fun hH1 => ?_)
        clear hK K hH0
        try simp only [Act.put, List.setIfInBounds_toArray, List.set_cons_zero, List.set_cons_succ]
        have CK := Lib.hid (Fe.keep_any q.f.ep LA3 q.f.n Lc3 q.f.T ⟨kd, e, ol, ls, tk, od, st, un, cd, ky, da⟩ A1 A2 c1 c2 RR.v A3 RR.r.length c3 RR.r w3.drew HFV3.out.drew (HNw3.out.below (Below.drew (Below.refl _ _))) hs hep HDV.out.1 HRB.out.drew HRL.out.1 HRL.out.2.1 HRL.out.2.2)
        refine wpAnyH_ready (rs := [8]) (by kernel_rfl) (by simp) ?_
        refine AllReadyH.cons rfl (fun K hK => ?_) AllReadyH.nil
        go_simp
        go_at_call 67
        with_reducible refine CK.out.mono ?_
        rintro x w4 ⟨v, X, he, hnf, hx, hb⟩
        rw [HKE.out] at he
        subst he
        have HB4 : Hid (Below w3.heap.size w3 w4) := Lib.hid (Below.trans (Below.drew (Below.refl _ _)) hb)
        obtain ⟨FF, hFF⟩ : ∃ f, Fe.keepF q.f.ep q.f.n q.f.T ⟨kd, e, ol, ls, tk, od, st, un, cd, ky, da⟩ RR.v RR.r = f := ⟨_, rfl⟩
        have HFF := Lib.hid hFF
        rw [hFF] at hnf hx
        rw [hFF]
        clear hFF
        have HNF4 : Hid (NF w4 w3.heap.size v FF.n X) := Lib.hid hnf
        have HX4 := Lib.hid hx
        have LN4 := Lib.hid (LN3.out.below HB4.out LN3.out.lt)
        have LR4 := Lib.hid (LR3.out.below HB4.out LR3.out.lt)
        have HC4 := Lib.hid (HC3.out.below HB4.out HC3.out.lt)
        have HV4 := Lib.hid (HV3.out.belowOwn HB4.out)
        clear hnf hx hb CK
        clear m0 m1 m2 m3 m4 m5 m6 v0 v1 v2 v3 v4 v5 v6
        obtain ⟨m0, m1, m2, m3, m4, m5, m6⟩ := Lies_cells7 HC4.out
        obtain ⟨v0, v1, v2, v3, v4, v5, v6⟩ := Lies_free7 HC4.out
        obtain ⟨vA, vc, rfl, -⟩ := HNF4.out.row.slice
        refine hK.out _ _ (LN4.out) (fun hH2 => ?_)
        clear hK K hH1
        try simp only [Act.put, List.setIfInBounds_toArray, List.set_cons_zero, List.set_cons_succ]
        refine Fe.any_take 9 87 ?vt52 rfl rfl (by kernel_rfl) (by kernel_rfl) (by kernel_rfl) (fun _ _ _ h => h) (by rfl) ?ht52 hH2 ?rt52
        case ht52 => ((intro W hSw); go_simp; (try with_reducible rfl))
        try simp only [Act.put, List.setIfInBounds_toArray, List.set_cons_zero, List.set_cons_succ]
        refine Fe.any_take 10 97 ?vt53 rfl rfl (by kernel_rfl) (by kernel_rfl) (by kernel_rfl) (fun _ _ _ h => h) (by rfl) ?ht53 hH2 ?rt53
        case ht53 => ((intro W hSw); go_simp; (try with_reducible rfl))
        try simp only [Act.put, List.setIfInBounds_toArray, List.set_cons_zero, List.set_cons_succ]
        refine Fe.any_take 11 98 ?vt54 rfl rfl (by kernel_rfl) (by kernel_rfl) (by kernel_rfl) (fun _ _ _ h => h) (by rfl) ?ht54 hH2 ?rt54
        case ht54 => ((intro W hSw); go_simp; (try with_reducible rfl))
        try simp only [Act.put, List.setIfInBounds_toArray, List.set_cons_zero, List.set_cons_succ]
        refine Fe.any_take 12 99 ?vt55 rfl rfl (by kernel_rfl) (by kernel_rfl) (by kernel_rfl) (fun _ _ _ h => h) (by rfl) ?ht55 hH2 ?rt55
        case ht55 => ((intro W hSw); go_simp; (try with_reducible rfl))
        try simp only [Act.put, List.setIfInBounds_toArray, List.set_cons_zero, List.set_cons_succ]
        refine Fe.any_take 13 100 ?vt56 rfl rfl (by kernel_rfl) (by kernel_rfl) (by kernel_rfl) (fun _ _ _ h => h) (by rfl) ?ht56 hH2 ?rt56
        case ht56 => ((intro W hSw); go_simp; (try with_reducible rfl))
        try simp only [Act.put, List.setIfInBounds_toArray, List.set_cons_zero, List.set_cons_succ]
        have HFS := Lib.hid (HA3.out.setF (ep := FF.ep) HB4.out HNF4.out HX4.out)
        rw [HCC.out] at HFS
        have HNG : Hid (w.heap.size ≠ b.c) := Lib.hid (fun e => HNN.out (.inl e))
        have HNG2 : Hid (w.heap.size + 1 ≠ b.c) := Lib.hid (fun e => HNR.out (.inl e))
        have LN5 : Hid (Lies (putF w4 b.c (.int .u32 (FF.ep : Int)) (.slice vA FF.n vc)) w.heap.size 55 #[.int .i64 kd, .int .u32 (e : Int), .int .u32 (ol : Int), .int .u64 (ls : Int), .int .u64 (tk : Int), .int .u32 (od : Int), .int .i64 st, .bool un, .int .i64 cd, .slice A1 ky.length c1, .slice A2 da.length c2]) := Lib.hid ((LN4.out.other (a := ⟨b.c, 3, none⟩) HNG.out _).other (a := ⟨b.c, 4, none⟩) HNG.out _)
        have LR5 : Hid (Lies (putF w4 b.c (.int .u32 (FF.ep : Int)) (.slice vA FF.n vc)) (w.heap.size + 1) 55 NZ) := Lib.hid ((LR4.out.other (a := ⟨b.c, 3, none⟩) HNG2.out _).other (a := ⟨b.c, 4, none⟩) HNG2.out _)
        have HV5 : Hid (Own (putF w4 b.c (.int .u32 (FF.ep : Int)) (.slice vA FF.n vc)) w.heap.size (.slice A3 RR.r.length c3) RR.r) := Lib.hid (Own_same HV4.out fun i hi => by have hn : i ≠ b.c := (Kb.row HV4.out.1 hi).ne (Kb.of HC4.out) (by decide); exact (heap_setCell_other _ ⟨b.c, 4, none⟩ i _ hn).trans (heap_setCell_other _ ⟨b.c, 3, none⟩ i _ hn))
        refine wpAnyH_ready (rs := [14]) (by kernel_rfl) (by simp) ?_
        refine AllReadyH.cons rfl (fun K hK => ?_) AllReadyH.nil
        go_simp
        with_reducible refine hK.out _ _ LN5.out (fun hH3 => ?_)
        clear hK K hH2
        try simp only [Act.put, List.setIfInBounds_toArray, List.set_cons_zero, List.set_cons_succ]
        clear hH3
        refine wpAnyH_done (by kernel_rfl) ?_ _
        refine NoPanic.normal ?_
        obtain ⟨w5, hw5⟩ : ∃ w5, w5 = putF w4 b.c (.int .u32 (FF.ep : Int)) (.slice vA FF.n vc) := ⟨_, rfl⟩
        have HW5 : Hid ((w4.setCell ⟨b.c, 3, none⟩ (.int .u32 (FF.ep : Int))).setCell ⟨b.c, 4, none⟩ (.slice vA FF.n vc) = w5) := Lib.hid hw5.symm
        rw [← hw5] at LN5 LR5 HV5 HFS
        clear hw5
        rw [HW5.out]
        clear r0 r1 r2 r3 r4 r5 r6 r7 r8 r9 r10 s0 s1 s2 s3 s4 s5 s6 s7 s8 s9 s10
        clear m0 m1 m2 m3 m4 m5 m6 v0 v1 v2 v3 v4 v5 v6
        clear x0 x1 x2 x3 x4 x5 x6 x7 x8 x9 x10
        obtain ⟨r0, r1, r2, r3, r4, r5, r6, r7, r8, r9, r10⟩ := LR5.out.cells11
        obtain ⟨s0, s1, s2, s3, s4, s5, s6, s7, s8, s9, s10⟩ := LR5.out.free11
        obtain ⟨x0, x1, x2, x3, x4, x5, x6, x7, x8, x9, x10⟩ := LN5.out.cells11
        go_wp2_with fail
        with_reducible refine (done_any kd e ol ls tk od st un cd _ _ RR.v A3 RR.r.length c3 w5).mono ?_
        rintro x w6 ⟨rfl, hb⟩
        have LR6 := Lib.hid (LR5.out.below hb LR5.out.lt)
        have HV6 := Lib.hid (HV5.out.belowOwn hb)
        have HA6 := Lib.hid (HFS.out.1.below hb)
        have HCh6 := Lib.hid (HCh3.out.trans (HFS.out.2.1.trans (Chg.of hb (F := b'.foot)) (fun i hi => .inl hi)) HF3.out)
        clear hb
        clear r0 r1 r2 r3 r4 r5 r6 r7 r8 r9 r10 s0 s1 s2 s3 s4 s5 s6 s7 s8 s9 s10
        obtain ⟨r0, r1, r2, r3, r4, r5, r6, r7, r8, r9, r10⟩ := LR6.out.cells11
        obtain ⟨s0, s1, s2, s3, s4, s5, s6, s7, s8, s9, s10⟩ := LR6.out.free11
        go_wp2
        rw [nest11]
        refine ret_note (w.heap.size + 1) _ rfl rfl (Lies_put11 LR6.out rfl _ _ _ _ _ _ _ _ _ _ _) rfl rfl ?_
        rw [HSX.out, HFF.out]
        have hff : ∀ i, ({ b' with c := b.c, n := FF.n, vL := .slice vA FF.n vc, X := X } : CB).foot i → b.foot i ∨ w.heap.size ≤ i := fun i hi => (HFS.out.2.2 i hi).elim (fun h => HF3.out i h) (fun h => .inr (Nat.le_trans HCh3.out.size h))
        have hRf : ¬ b'.foot (w.heap.size + 1) := fun hf => (HF3w.out _ hf).elim (fun h => HNR.out h) (fun h => by have h1 := LR2.out.lt; omega)
        exact serve_fin (b := b) (s := ⟨doneN ⟨kd, e, ol, ls, tk, od, st, un, cd, ky, da⟩ RR.v RR.r, { RR.q with f := FF }⟩) (b' := { b' with c := b.c, n := FF.n, vL := .slice vA FF.n vc, X := X }) (v := .slice A3 RR.r.length c3) (w.heap.size + 1) LR6.out (Nat.le_succ _) HV6.out (fun i hi hf => (HFS.out.2.2 i hf).elim (fun h => HVF3.out i hi h) (fun h => by have h1 := HV3.out.lt i hi; omega)) rfl HA6.out HCh6.out hff (fun hf => (HFS.out.2.2 _ hf).elim (fun h => hRf h) (fun h => by have h1 := LR3.out.lt; omega)) _ _ _ _ _ _ _ _ _ _ _ rfl

end Go.Proofs.YtpbclmnhkmcknaaGreat
