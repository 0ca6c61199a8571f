/-
  Texts of one proof, in their order: FeAskP, FeAsk, FeKeepP.
-/
import Derived.Deep.RegionHeld3
import Derived.Test.YtpbclmnhkmcknaaGreatB06
namespace Go.Proofs.YtpbclmnhkmcknaaGreat.Fe
open Go.RowKit
set_option maxRecDepth 100000
set_option linter.unusedVariables false
set_option linter.unusedSimpArgs false

theorem Lies.cells11 {w : World} {g : Nat} {t : TypeId} {z0 z1 z2 z3 z4 z5 z6 z7 z8 z9 z10 : Value} (h : Lies w g t #[z0, z1, z2, z3, z4, z5, z6, z7, z8, z9, z10]) : w.cell? ⟨g, 0, none⟩ = some z0 ∧ w.cell? ⟨g, 1, none⟩ = some z1 ∧ w.cell? ⟨g, 2, none⟩ = some z2 ∧ w.cell? ⟨g, 3, none⟩ = some z3 ∧ w.cell? ⟨g, 4, none⟩ = some z4 ∧ w.cell? ⟨g, 5, none⟩ = some z5 ∧ w.cell? ⟨g, 6, none⟩ = some z6 ∧ w.cell? ⟨g, 7, none⟩ = some z7 ∧ w.cell? ⟨g, 8, none⟩ = some z8 ∧ w.cell? ⟨g, 9, none⟩ = some z9 ∧ w.cell? ⟨g, 10, none⟩ = some z10 :=
  ⟨h.cell 0, h.cell 1, h.cell 2, h.cell 3, h.cell 4, h.cell 5, h.cell 6, h.cell 7, h.cell 8, h.cell 9, h.cell 10⟩
theorem Lies.free11 {w : World} {g : Nat} {t : TypeId} {cs : Array Value} (h : Lies w g t cs) : w.frozen? ⟨g, 0, none⟩ = false ∧ w.frozen? ⟨g, 1, none⟩ = false ∧ w.frozen? ⟨g, 2, none⟩ = false ∧ w.frozen? ⟨g, 3, none⟩ = false ∧ w.frozen? ⟨g, 4, none⟩ = false ∧ w.frozen? ⟨g, 5, none⟩ = false ∧ w.frozen? ⟨g, 6, none⟩ = false ∧ w.frozen? ⟨g, 7, none⟩ = false ∧ w.frozen? ⟨g, 8, none⟩ = false ∧ w.frozen? ⟨g, 9, none⟩ = false ∧ w.frozen? ⟨g, 10, none⟩ = false :=
  ⟨h.free 0, h.free 1, h.free 2, h.free 3, h.free 4, h.free 5, h.free 6, h.free 7, h.free 8, h.free 9, h.free 10⟩
set_option maxHeartbeats 4000000 in
theorem isRequest_any (N : Note) (A1 A2 : Option Addr) (c1 c2 : Nat) (w : World) :
    Calls Tryz.prog 96 #[.agg (evs N (.slice A1 N.key.length c1) (.slice A2 N.data.length c2))] w fun x w' => x = .returned (.bool (reqB N)) ∧ Below w.heap.size w w' := by
  have C := Lib.hid (fun W => check_any N A1 A2 c1 c2 W)
  have HB := Lib.hid (below1 w (.cells (evs N (.slice A1 N.key.length c1) (.slice A2 N.data.length c2)) 55))
  have LN := Lib.hid (Lies.made w 55 (evs N (.slice A1 N.key.length c1) (.slice A2 N.data.length c2)))
  unfold ChkPost chkN at C
  by_cases h1 : N.kind = 7
  · have d1 : (N.kind == 7) = true := by simpa using h1
    cases h2 : Ent.ok N
    · rw [h2, if_neg (by decide)] at C
      rw [show reqB N = false from by unfold reqB; rw [h2]; simp]
      obtain ⟨kd, e, ol, ls, tk, od, st, un, cd, ky, da⟩ := N
      dsimp only at *
      generalize ky.length = n1 at *
      generalize da.length = n2 at *
      clear h1 h2
      go_enter Tryz.func96, Tryz.ntmps96
      go_wp2_with fail
      with_reducible refine (C.out _).mono ?_
      rintro x w1 ⟨rfl, hb⟩
      have LN_1 := Lib.hid ((Lies.below LN.out hb LN.out.lt))
      have HB_1 := Lib.hid (HB.out.trans (hb.mono HB.out.size))
      clear hb
      obtain ⟨c0_0, c0_1, c0_2, c0_3, c0_4, c0_5, c0_6, c0_7, c0_8, c0_9, c0_10⟩ := LN_1.out.cells11
      obtain ⟨f0_0, f0_1, f0_2, f0_3, f0_4, f0_5, f0_6, f0_7, f0_8, f0_9, f0_10⟩ := LN_1.out.free11
      go_wp2
      go_ret
      exact ⟨rfl, HB_1.out⟩
    · rw [h2, if_pos rfl] at C
      by_cases h3 : N.epoch = 0
      · have d3 : ((N.epoch : Int) != 0) = false := by simp [h3]
        rw [show reqB N = false from by unfold reqB; rw [h2]; simp [h3]]
        obtain ⟨kd, e, ol, ls, tk, od, st, un, cd, ky, da⟩ := N
        dsimp only at *
        generalize ky.length = n1 at *
        generalize da.length = n2 at *
        clear h1 h2 h3
        go_enter Tryz.func96, Tryz.ntmps96
        go_wp2_with fail
        with_reducible refine (C.out _).mono ?_
        rintro x w1 ⟨rfl, hb⟩
        have LN_1 := Lib.hid ((Lies.below LN.out hb LN.out.lt))
        have HB_1 := Lib.hid (HB.out.trans (hb.mono HB.out.size))
        clear hb
        obtain ⟨c0_0, c0_1, c0_2, c0_3, c0_4, c0_5, c0_6, c0_7, c0_8, c0_9, c0_10⟩ := LN_1.out.cells11
        obtain ⟨f0_0, f0_1, f0_2, f0_3, f0_4, f0_5, f0_6, f0_7, f0_8, f0_9, f0_10⟩ := LN_1.out.free11
        go_wp2
        go_ret
        exact ⟨rfl, HB_1.out⟩
      · have d3 : ((N.epoch : Int) != 0) = true := by simp; omega
        by_cases h4 : N.order = 0
        · have d4 : ((N.order : Int) != 0) = false := by simp [h4]
          rw [show reqB N = false from by unfold reqB; rw [h2]; simp [h4]]
          obtain ⟨kd, e, ol, ls, tk, od, st, un, cd, ky, da⟩ := N
          dsimp only at *
          generalize ky.length = n1 at *
          generalize da.length = n2 at *
          clear h1 h2 h3 h4
          go_enter Tryz.func96, Tryz.ntmps96
          go_wp2_with fail
          with_reducible refine (C.out _).mono ?_
          rintro x w1 ⟨rfl, hb⟩
          have LN_1 := Lib.hid ((Lies.below LN.out hb LN.out.lt))
          have HB_1 := Lib.hid (HB.out.trans (hb.mono HB.out.size))
          clear hb
          obtain ⟨c0_0, c0_1, c0_2, c0_3, c0_4, c0_5, c0_6, c0_7, c0_8, c0_9, c0_10⟩ := LN_1.out.cells11
          obtain ⟨f0_0, f0_1, f0_2, f0_3, f0_4, f0_5, f0_6, f0_7, f0_8, f0_9, f0_10⟩ := LN_1.out.free11
          go_wp2
          go_ret
          exact ⟨rfl, HB_1.out⟩
        · have d4 : ((N.order : Int) != 0) = true := by simp; omega
          rw [show reqB N = true from by unfold reqB; rw [h2]; simp [h1, h3, h4]]
          obtain ⟨kd, e, ol, ls, tk, od, st, un, cd, ky, da⟩ := N
          dsimp only at *
          generalize ky.length = n1 at *
          generalize da.length = n2 at *
          clear h1 h2 h3 h4
          go_enter Tryz.func96, Tryz.ntmps96
          go_wp2_with fail
          with_reducible refine (C.out _).mono ?_
          rintro x w1 ⟨rfl, hb⟩
          have LN_1 := Lib.hid ((Lies.below LN.out hb LN.out.lt))
          have HB_1 := Lib.hid (HB.out.trans (hb.mono HB.out.size))
          clear hb
          obtain ⟨c0_0, c0_1, c0_2, c0_3, c0_4, c0_5, c0_6, c0_7, c0_8, c0_9, c0_10⟩ := LN_1.out.cells11
          obtain ⟨f0_0, f0_1, f0_2, f0_3, f0_4, f0_5, f0_6, f0_7, f0_8, f0_9, f0_10⟩ := LN_1.out.free11
          go_wp2
          go_ret
          exact ⟨rfl, HB_1.out⟩
  · have d1 : (N.kind == 7) = false := by simpa using h1
    rw [show reqB N = false from by unfold reqB; simp [h1]]
    obtain ⟨kd, e, ol, ls, tk, od, st, un, cd, ky, da⟩ := N
    dsimp only at *
    generalize ky.length = n1 at *
    generalize da.length = n2 at *
    clear h1
    go_enter Tryz.func96, Tryz.ntmps96
    go_wp2
    go_ret
    exact ⟨rfl, HB.out⟩

set_option maxHeartbeats 8000000 in
theorem actOnNew_any (ep : Nat) (A : Option Addr) (n c : Nat) (T : Nat → Kp) (N : Note) (A1 A2 : Option Addr) (c1 c2 : Nat) (w : World) (hF : FV w A n c T) (hs : in64 N.step) (hok : okB n T = true) :
    Calls Tryz.prog 98 #[.agg #[.int .u32 (ep : Int), .slice A n c], .agg (evs N (.slice A1 N.key.length c1) (.slice A2 N.data.length c2))] w fun x w' => x = .returned (.int .i64 (actN n T N : Nat)) ∧ Below w.heap.size w w' := by
  have CF := Lib.hid (fun W (h : FV W A n c T) => find_any ep A n c T N.order N.step (!N.undo) W h hs)
  have BB := Lib.hid (below2 w (.cells #[.int .u32 (ep : Int), .slice A n c] 64) (.cells (evs N (.slice A1 N.key.length c1) (.slice A2 N.data.length c2)) 55))
  have LF := Lib.hid ((Lies.made w 64 #[.int .u32 (ep : Int), .slice A n c]).alloc (.cells (evs N (.slice A1 N.key.length c1) (.slice A2 N.data.length c2)) 55))
  have LN := Lib.hid (Lies.made2 w (.cells #[.int .u32 (ep : Int), .slice A n c] 64) 55 (evs N (.slice A1 N.key.length c1) (.slice A2 N.data.length c2)))
  have HF := Lib.hid (hF.below BB.out)
  have HFB : Hid (findB n T (kn N.order N.step (!N.undo)) = has n T (nk' N)) := Lib.hid (by unfold findB; rw [hok]; rfl)
  rw [HFB.out] at CF
  have HFK : Hid (has n T (nk' N) = true → findK n T (nk' N) = T (pos T (nk' N) n)) := Lib.hid (fun h => by unfold findK; rw [if_pos ⟨hok, h⟩])
  clear hF hs hok HFB
  have HAN : Hid (actN n T N = if N.undo = false ∧ has n T (nk' N) = true then 3 else if N.undo = true ∧ (has n T (nk' N) = false ∨ (T (pos T (nk' N) n)).c = 2) then 4 else 1) := Lib.hid rfl
  cases hh : has n T (nk' N)
  · rw [hh] at CF HAN
    cases hu : N.undo
    · rw [hu, if_neg (by simp), if_neg (by simp)] at HAN
      rw [HAN.out]
      generalize findK n T (kn N.order N.step (!N.undo)) = fk at *
      obtain ⟨kd, e, ol, ls, tk, od, st, un, cd, ky, da⟩ := N
      dsimp only at *
      subst hu
      rw [show (!false) = true from rfl] at CF
      generalize ky.length = n1 at *
      generalize da.length = n2 at *
      clear HAN HFK hh
      go_enter Tryz.func98, Tryz.ntmps98
      go_wp2_with fail
      with_reducible refine (CF.out _ HF.out).mono ?_
      rintro x w1 ⟨y, rfl, hy, hb⟩
      obtain ⟨E1, d1, z1, -⟩ := hy.2.1.slice
      obtain ⟨E2, d2, z2, -⟩ := hy.2.2.slice
      have hyk := hy.1
      obtain ⟨yk, yK, yD⟩ := y
      dsimp only at *
      subst z1 z2 hyk
      clear hy
      obtain ⟨yo, ys, yu, ya, yc, yr⟩ := yk
      dsimp only at *
      obtain ⟨m1, hm1⟩ : ∃ m, ya.length = m := ⟨_, rfl⟩
      obtain ⟨m2, hm2⟩ : ∃ m, yr.length = m := ⟨_, rfl⟩
      rw [hm1, hm2]
      clear hm1 hm2
      have LF_1 := Lib.hid ((Lies.below LF.out hb LF.out.lt).alloc (.cells #[.int .u32 (yo : Int), .int .i64 ys, .bool yu, .slice E1 m1 d1, .int .i64 yc, .slice E2 m2 d2] 130))
      have LN_1 := Lib.hid ((Lies.below LN.out hb LN.out.lt).alloc (.cells #[.int .u32 (yo : Int), .int .i64 ys, .bool yu, .slice E1 m1 d1, .int .i64 yc, .slice E2 m2 d2] 130))
      have BB_1 := Lib.hid ((BB.out.trans (hb.mono BB.out.size)).alloc (BB.out.trans (hb.mono BB.out.size)).size (.cells #[.int .u32 (yo : Int), .int .i64 ys, .bool yu, .slice E1 m1 d1, .int .i64 yc, .slice E2 m2 d2] 130))
      have LN1_1 := Lib.hid (Lies.made w1 130 #[.int .u32 (yo : Int), .int .i64 ys, .bool yu, .slice E1 m1 d1, .int .i64 yc, .slice E2 m2 d2])
      clear hb
      obtain ⟨c0_0, c0_1⟩ := LF_1.out.cells2
      obtain ⟨f0_0, f0_1⟩ := LF_1.out.free2
      obtain ⟨c1_0, c1_1, c1_2, c1_3, c1_4, c1_5, c1_6, c1_7, c1_8, c1_9, c1_10⟩ := LN_1.out.cells11
      obtain ⟨f1_0, f1_1, f1_2, f1_3, f1_4, f1_5, f1_6, f1_7, f1_8, f1_9, f1_10⟩ := LN_1.out.free11
      obtain ⟨c2_0, c2_1, c2_2, c2_3, c2_4, c2_5⟩ := LN1_1.out.cells6
      obtain ⟨f2_0, f2_1, f2_2, f2_3, f2_4, f2_5⟩ := LN1_1.out.free6
      go_wp2
      go_ret
      exact ⟨rfl, BB_1.out⟩
    · rw [hu, if_neg (by simp), if_pos (by simp)] at HAN
      rw [HAN.out]
      generalize findK n T (kn N.order N.step (!N.undo)) = fk at *
      obtain ⟨kd, e, ol, ls, tk, od, st, un, cd, ky, da⟩ := N
      dsimp only at *
      subst hu
      rw [show (!true) = false from rfl] at CF
      generalize ky.length = n1 at *
      generalize da.length = n2 at *
      clear HAN HFK hh
      go_enter Tryz.func98, Tryz.ntmps98
      go_wp2_with fail
      with_reducible refine (CF.out _ HF.out).mono ?_
      rintro x w1 ⟨y, rfl, hy, hb⟩
      obtain ⟨E1, d1, z1, -⟩ := hy.2.1.slice
      obtain ⟨E2, d2, z2, -⟩ := hy.2.2.slice
      have hyk := hy.1
      obtain ⟨yk, yK, yD⟩ := y
      dsimp only at *
      subst z1 z2 hyk
      clear hy
      obtain ⟨yo, ys, yu, ya, yc, yr⟩ := yk
      dsimp only at *
      obtain ⟨m1, hm1⟩ : ∃ m, ya.length = m := ⟨_, rfl⟩
      obtain ⟨m2, hm2⟩ : ∃ m, yr.length = m := ⟨_, rfl⟩
      rw [hm1, hm2]
      clear hm1 hm2
      have LF_1 := Lib.hid ((Lies.below LF.out hb LF.out.lt).alloc (.cells #[.int .u32 (yo : Int), .int .i64 ys, .bool yu, .slice E1 m1 d1, .int .i64 yc, .slice E2 m2 d2] 130))
      have LN_1 := Lib.hid ((Lies.below LN.out hb LN.out.lt).alloc (.cells #[.int .u32 (yo : Int), .int .i64 ys, .bool yu, .slice E1 m1 d1, .int .i64 yc, .slice E2 m2 d2] 130))
      have BB_1 := Lib.hid ((BB.out.trans (hb.mono BB.out.size)).alloc (BB.out.trans (hb.mono BB.out.size)).size (.cells #[.int .u32 (yo : Int), .int .i64 ys, .bool yu, .slice E1 m1 d1, .int .i64 yc, .slice E2 m2 d2] 130))
      have LN1_1 := Lib.hid (Lies.made w1 130 #[.int .u32 (yo : Int), .int .i64 ys, .bool yu, .slice E1 m1 d1, .int .i64 yc, .slice E2 m2 d2])
      clear hb
      obtain ⟨c0_0, c0_1⟩ := LF_1.out.cells2
      obtain ⟨f0_0, f0_1⟩ := LF_1.out.free2
      obtain ⟨c1_0, c1_1, c1_2, c1_3, c1_4, c1_5, c1_6, c1_7, c1_8, c1_9, c1_10⟩ := LN_1.out.cells11
      obtain ⟨f1_0, f1_1, f1_2, f1_3, f1_4, f1_5, f1_6, f1_7, f1_8, f1_9, f1_10⟩ := LN_1.out.free11
      obtain ⟨c2_0, c2_1, c2_2, c2_3, c2_4, c2_5⟩ := LN1_1.out.cells6
      obtain ⟨f2_0, f2_1, f2_2, f2_3, f2_4, f2_5⟩ := LN1_1.out.free6
      go_wp2
      go_ret
      exact ⟨rfl, BB_1.out⟩
  · rw [hh] at CF HAN
    have HFE := HFK.out hh
    cases hu : N.undo
    · rw [hu, if_pos (by simp)] at HAN
      rw [HAN.out]
      generalize findK n T (kn N.order N.step (!N.undo)) = fk at *
      obtain ⟨kd, e, ol, ls, tk, od, st, un, cd, ky, da⟩ := N
      dsimp only at *
      subst hu
      rw [show (!false) = true from rfl] at CF
      generalize ky.length = n1 at *
      generalize da.length = n2 at *
      clear HAN HFK hh HFE
      go_enter Tryz.func98, Tryz.ntmps98
      go_wp2_with fail
      with_reducible refine (CF.out _ HF.out).mono ?_
      rintro x w1 ⟨y, rfl, hy, hb⟩
      obtain ⟨E1, d1, z1, -⟩ := hy.2.1.slice
      obtain ⟨E2, d2, z2, -⟩ := hy.2.2.slice
      have hyk := hy.1
      obtain ⟨yk, yK, yD⟩ := y
      dsimp only at *
      subst z1 z2 hyk
      clear hy
      obtain ⟨yo, ys, yu, ya, yc, yr⟩ := yk
      dsimp only at *
      obtain ⟨m1, hm1⟩ : ∃ m, ya.length = m := ⟨_, rfl⟩
      obtain ⟨m2, hm2⟩ : ∃ m, yr.length = m := ⟨_, rfl⟩
      rw [hm1, hm2]
      clear hm1 hm2
      have LF_1 := Lib.hid ((Lies.below LF.out hb LF.out.lt).alloc (.cells #[.int .u32 (yo : Int), .int .i64 ys, .bool yu, .slice E1 m1 d1, .int .i64 yc, .slice E2 m2 d2] 130))
      have LN_1 := Lib.hid ((Lies.below LN.out hb LN.out.lt).alloc (.cells #[.int .u32 (yo : Int), .int .i64 ys, .bool yu, .slice E1 m1 d1, .int .i64 yc, .slice E2 m2 d2] 130))
      have BB_1 := Lib.hid ((BB.out.trans (hb.mono BB.out.size)).alloc (BB.out.trans (hb.mono BB.out.size)).size (.cells #[.int .u32 (yo : Int), .int .i64 ys, .bool yu, .slice E1 m1 d1, .int .i64 yc, .slice E2 m2 d2] 130))
      have LN1_1 := Lib.hid (Lies.made w1 130 #[.int .u32 (yo : Int), .int .i64 ys, .bool yu, .slice E1 m1 d1, .int .i64 yc, .slice E2 m2 d2])
      clear hb
      obtain ⟨c0_0, c0_1⟩ := LF_1.out.cells2
      obtain ⟨f0_0, f0_1⟩ := LF_1.out.free2
      obtain ⟨c1_0, c1_1, c1_2, c1_3, c1_4, c1_5, c1_6, c1_7, c1_8, c1_9, c1_10⟩ := LN_1.out.cells11
      obtain ⟨f1_0, f1_1, f1_2, f1_3, f1_4, f1_5, f1_6, f1_7, f1_8, f1_9, f1_10⟩ := LN_1.out.free11
      obtain ⟨c2_0, c2_1, c2_2, c2_3, c2_4, c2_5⟩ := LN1_1.out.cells6
      obtain ⟨f2_0, f2_1, f2_2, f2_3, f2_4, f2_5⟩ := LN1_1.out.free6
      go_wp2
      go_ret
      exact ⟨rfl, BB_1.out⟩
    · by_cases hc : (T (pos T (nk' N) n)).c = 2
      · rw [hu, if_neg (by simp), if_pos (by simp [hc])] at HAN
        rw [HAN.out]
        rw [← HFE] at hc
        generalize findK n T (nk' N) = fk at *
        obtain ⟨kd, e, ol, ls, tk, od, st, un, cd, ky, da⟩ := N
        dsimp only at *
        subst hu
        rw [show (!true) = false from rfl] at CF
        generalize ky.length = n1 at *
        generalize da.length = n2 at *
        clear HAN HFK hh HFE
        go_enter Tryz.func98, Tryz.ntmps98
        go_wp2_with fail
        with_reducible refine (CF.out _ HF.out).mono ?_
        rintro x w1 ⟨y, rfl, hy, hb⟩
        obtain ⟨E1, d1, z1, -⟩ := hy.2.1.slice
        obtain ⟨E2, d2, z2, -⟩ := hy.2.2.slice
        have hyk := hy.1
        obtain ⟨yk, yK, yD⟩ := y
        dsimp only at *
        subst z1 z2 hyk
        clear hy
        obtain ⟨yo, ys, yu, ya, yc, yr⟩ := yk
        dsimp only at *
        obtain ⟨m1, hm1⟩ : ∃ m, ya.length = m := ⟨_, rfl⟩
        obtain ⟨m2, hm2⟩ : ∃ m, yr.length = m := ⟨_, rfl⟩
        rw [hm1, hm2]
        clear hm1 hm2
        have LF_1 := Lib.hid ((Lies.below LF.out hb LF.out.lt).alloc (.cells #[.int .u32 (yo : Int), .int .i64 ys, .bool yu, .slice E1 m1 d1, .int .i64 yc, .slice E2 m2 d2] 130))
        have LN_1 := Lib.hid ((Lies.below LN.out hb LN.out.lt).alloc (.cells #[.int .u32 (yo : Int), .int .i64 ys, .bool yu, .slice E1 m1 d1, .int .i64 yc, .slice E2 m2 d2] 130))
        have BB_1 := Lib.hid ((BB.out.trans (hb.mono BB.out.size)).alloc (BB.out.trans (hb.mono BB.out.size)).size (.cells #[.int .u32 (yo : Int), .int .i64 ys, .bool yu, .slice E1 m1 d1, .int .i64 yc, .slice E2 m2 d2] 130))
        have LN1_1 := Lib.hid (Lies.made w1 130 #[.int .u32 (yo : Int), .int .i64 ys, .bool yu, .slice E1 m1 d1, .int .i64 yc, .slice E2 m2 d2])
        clear hb
        obtain ⟨c0_0, c0_1⟩ := LF_1.out.cells2
        obtain ⟨f0_0, f0_1⟩ := LF_1.out.free2
        obtain ⟨c1_0, c1_1, c1_2, c1_3, c1_4, c1_5, c1_6, c1_7, c1_8, c1_9, c1_10⟩ := LN_1.out.cells11
        obtain ⟨f1_0, f1_1, f1_2, f1_3, f1_4, f1_5, f1_6, f1_7, f1_8, f1_9, f1_10⟩ := LN_1.out.free11
        obtain ⟨c2_0, c2_1, c2_2, c2_3, c2_4, c2_5⟩ := LN1_1.out.cells6
        obtain ⟨f2_0, f2_1, f2_2, f2_3, f2_4, f2_5⟩ := LN1_1.out.free6
        have dq : (yc == 2) = true := by simpa using hc
        clear hc
        go_wp2
        go_ret
        exact ⟨rfl, BB_1.out⟩
      · rw [hu, if_neg (by simp), if_neg (by simp [hc])] at HAN
        rw [HAN.out]
        rw [← HFE] at hc
        generalize findK n T (nk' N) = fk at *
        obtain ⟨kd, e, ol, ls, tk, od, st, un, cd, ky, da⟩ := N
        dsimp only at *
        subst hu
        rw [show (!true) = false from rfl] at CF
        generalize ky.length = n1 at *
        generalize da.length = n2 at *
        clear HAN HFK hh HFE
        go_enter Tryz.func98, Tryz.ntmps98
        go_wp2_with fail
        with_reducible refine (CF.out _ HF.out).mono ?_
        rintro x w1 ⟨y, rfl, hy, hb⟩
        obtain ⟨E1, d1, z1, -⟩ := hy.2.1.slice
        obtain ⟨E2, d2, z2, -⟩ := hy.2.2.slice
        have hyk := hy.1
        obtain ⟨yk, yK, yD⟩ := y
        dsimp only at *
        subst z1 z2 hyk
        clear hy
        obtain ⟨yo, ys, yu, ya, yc, yr⟩ := yk
        dsimp only at *
        obtain ⟨m1, hm1⟩ : ∃ m, ya.length = m := ⟨_, rfl⟩
        obtain ⟨m2, hm2⟩ : ∃ m, yr.length = m := ⟨_, rfl⟩
        rw [hm1, hm2]
        clear hm1 hm2
        have LF_1 := Lib.hid ((Lies.below LF.out hb LF.out.lt).alloc (.cells #[.int .u32 (yo : Int), .int .i64 ys, .bool yu, .slice E1 m1 d1, .int .i64 yc, .slice E2 m2 d2] 130))
        have LN_1 := Lib.hid ((Lies.below LN.out hb LN.out.lt).alloc (.cells #[.int .u32 (yo : Int), .int .i64 ys, .bool yu, .slice E1 m1 d1, .int .i64 yc, .slice E2 m2 d2] 130))
        have BB_1 := Lib.hid ((BB.out.trans (hb.mono BB.out.size)).alloc (BB.out.trans (hb.mono BB.out.size)).size (.cells #[.int .u32 (yo : Int), .int .i64 ys, .bool yu, .slice E1 m1 d1, .int .i64 yc, .slice E2 m2 d2] 130))
        have LN1_1 := Lib.hid (Lies.made w1 130 #[.int .u32 (yo : Int), .int .i64 ys, .bool yu, .slice E1 m1 d1, .int .i64 yc, .slice E2 m2 d2])
        clear hb
        obtain ⟨c0_0, c0_1⟩ := LF_1.out.cells2
        obtain ⟨f0_0, f0_1⟩ := LF_1.out.free2
        obtain ⟨c1_0, c1_1, c1_2, c1_3, c1_4, c1_5, c1_6, c1_7, c1_8, c1_9, c1_10⟩ := LN_1.out.cells11
        obtain ⟨f1_0, f1_1, f1_2, f1_3, f1_4, f1_5, f1_6, f1_7, f1_8, f1_9, f1_10⟩ := LN_1.out.free11
        obtain ⟨c2_0, c2_1, c2_2, c2_3, c2_4, c2_5⟩ := LN1_1.out.cells6
        obtain ⟨f2_0, f2_1, f2_2, f2_3, f2_4, f2_5⟩ := LN1_1.out.free6
        have dq : (yc == 2) = false := by simpa using hc
        clear hc
        go_wp2
        go_ret
        exact ⟨rfl, BB_1.out⟩

end Go.Proofs.YtpbclmnhkmcknaaGreat.Fe

namespace Go.Proofs.YtpbclmnhkmcknaaGreat.Fe
open Go.RowKit
set_option maxRecDepth 100000
set_option linter.unusedVariables false
set_option linter.unusedSimpArgs false

/-- What Ask answers. -/
def AskPost (w : World) (a : An) (x : Ending) (w' : World) : Prop := ∃ y, x = .returned (.tuple #[.int .i64 (a.act : Nat), .agg (kc y), .int .i64 (a.e : Nat)]) ∧ NewK w' w.heap.size a.k y ∧ Below w.heap.size w w'
theorem Bys.belowD {w w' : World} {a : Option Addr} {n : Nat} {l : List Nat} (h : Bys w a n l) (hb : Below w.heap.size w w') : Bys w' a n l := h.below hb
set_option maxHeartbeats 16000000 in
theorem ask_any (ep : Nat) (A : Option Addr) (n c : Nat) (T : Nat → Kp) (N : Note) (A1 A2 : Option Addr) (c1 c2 : Nat) (w : World) (hF : FV w A n c T) (hN : EntV w N A1 A2 c1 c2) (hs : in64 N.step) (hep : ep < 4294967296) :
    Calls Tryz.prog 62 #[.agg #[.int .u32 (ep : Int), .slice A n c], .agg (evs N (.slice A1 N.key.length c1) (.slice A2 N.data.length c2))] w (AskPost w (askS ep n T N)) := by
  have CK := Lib.hid (fun W (h : FV W A n c T) => check_fence ep A n c T W h)
  have CR := Lib.hid (fun W => isRequest_any N A1 A2 c1 c2 W)
  have BB := Lib.hid (below3 w (.cells #[.int .u32 (ep : Int), .slice A n c] 64) (.cells (evs N (.slice A1 N.key.length c1) (.slice A2 N.data.length c2)) 55) (.cells #[.int .u32 0, .int .i64 0, .bool false, .slice none 0 0, .int .i64 0, .slice none 0 0] 130))
  have LF := Lib.hid (((Lies.made w 64 #[.int .u32 (ep : Int), .slice A n c]).alloc (.cells (evs N (.slice A1 N.key.length c1) (.slice A2 N.data.length c2)) 55)).alloc (.cells #[.int .u32 0, .int .i64 0, .bool false, .slice none 0 0, .int .i64 0, .slice none 0 0] 130))
  have LN := Lib.hid ((Lies.made2 w (.cells #[.int .u32 (ep : Int), .slice A n c] 64) 55 (evs N (.slice A1 N.key.length c1) (.slice A2 N.data.length c2))).alloc (.cells #[.int .u32 0, .int .i64 0, .bool false, .slice none 0 0, .int .i64 0, .slice none 0 0] 130))
  have LR := Lib.hid (Lies.made3 w (.cells #[.int .u32 (ep : Int), .slice A n c] 64) (.cells (evs N (.slice A1 N.key.length c1) (.slice A2 N.data.length c2)) 55) 130 #[.int .u32 0, .int .i64 0, .bool false, .slice none 0 0, .int .i64 0, .slice none 0 0])
  have HF := Lib.hid (hF.below BB.out)
  have HD := Lib.hid (hN.d.below BB.out)
  have HNB := Lib.hid hN.b.epoch
  cases hok : okB n T
  · rw [show askS ep n T N = ⟨0, kz, 2⟩ from by unfold askS; rw [if_neg (by rw [hok]; simp)]]
    rw [chkC_bad hok] at CK
    unfold AskPost
    obtain ⟨kd, e, ol, ls, tk, od, st, un, cd, ky, da⟩ := N
    dsimp only at *
    generalize ky.length = n1 at *
    generalize da.length = n2 at *
    clear hok hN hF hs
    go_enter Tryz.func62, Tryz.ntmps62
    go_wp2_with fail
    with_reducible refine (CK.out _ HF.out).mono ?_
    rintro x w1 ⟨rfl, hb⟩
    have LF_1 := Lib.hid ((Lies.below LF.out hb LF.out.lt))
    have LN_1 := Lib.hid ((Lies.below LN.out hb LN.out.lt))
    have LR_1 := Lib.hid ((Lies.below LR.out hb LR.out.lt))
    have BB_1 := Lib.hid (BB.out.trans (hb.mono BB.out.size))
    have HF_1 := Lib.hid ((HF.out.below hb))
    clear hb
    obtain ⟨c0_0, c0_1⟩ := LF_1.out.cells2
    obtain ⟨f0_0, f0_1⟩ := LF_1.out.free2
    obtain ⟨c1_0, c1_1, c1_2, c1_3, c1_4, c1_5, c1_6, c1_7, c1_8, c1_9, c1_10⟩ := LN_1.out.cells11
    obtain ⟨f1_0, f1_1, f1_2, f1_3, f1_4, f1_5, f1_6, f1_7, f1_8, f1_9, f1_10⟩ := LN_1.out.free11
    obtain ⟨c2_0, c2_1, c2_2, c2_3, c2_4, c2_5⟩ := LR_1.out.cells6
    obtain ⟨f2_0, f2_1, f2_2, f2_3, f2_4, f2_5⟩ := LR_1.out.free6
    go_wp2
    exact ret_ask (w.heap.size + 1 + 1) 130 _ rfl rfl (LR_1.out.put6 _ _ _ _ _ _) rfl rfl ⟨_, rfl, newK_zero _ _, below_put6 BB_1.out (by omega) _ _ _ _ _ _⟩
  · rw [chkC_ok hok] at CK
    cases hr : reqB N
    · rw [show askS ep n T N = ⟨0, kz, 2⟩ from by unfold askS; rw [if_neg (by rw [hr]; simp)]]
      rw [hr] at CR
      unfold AskPost
      obtain ⟨kd, e, ol, ls, tk, od, st, un, cd, ky, da⟩ := N
      dsimp only at *
      generalize ky.length = n1 at *
      generalize da.length = n2 at *
      clear hok hN hF hs hr
      go_enter Tryz.func62, Tryz.ntmps62
      go_wp2_with fail
      with_reducible refine (CK.out _ HF.out).mono ?_
      rintro x w1 ⟨rfl, hb⟩
      have LF_1 := Lib.hid ((Lies.below LF.out hb LF.out.lt))
      have LN_1 := Lib.hid ((Lies.below LN.out hb LN.out.lt))
      have LR_1 := Lib.hid ((Lies.below LR.out hb LR.out.lt))
      have BB_1 := Lib.hid (BB.out.trans (hb.mono BB.out.size))
      have HF_1 := Lib.hid ((HF.out.below hb))
      clear hb
      obtain ⟨c0_0, c0_1⟩ := LF_1.out.cells2
      obtain ⟨f0_0, f0_1⟩ := LF_1.out.free2
      obtain ⟨c1_0, c1_1, c1_2, c1_3, c1_4, c1_5, c1_6, c1_7, c1_8, c1_9, c1_10⟩ := LN_1.out.cells11
      obtain ⟨f1_0, f1_1, f1_2, f1_3, f1_4, f1_5, f1_6, f1_7, f1_8, f1_9, f1_10⟩ := LN_1.out.free11
      obtain ⟨c2_0, c2_1, c2_2, c2_3, c2_4, c2_5⟩ := LR_1.out.cells6
      obtain ⟨f2_0, f2_1, f2_2, f2_3, f2_4, f2_5⟩ := LR_1.out.free6
      go_wp2_with fail
      with_reducible refine (CR.out _).mono ?_
      rintro x w2 ⟨rfl, hb⟩
      have LF_2 := Lib.hid ((Lies.below LF_1.out hb LF_1.out.lt))
      have LN_2 := Lib.hid ((Lies.below LN_1.out hb LN_1.out.lt))
      have LR_2 := Lib.hid ((Lies.below LR_1.out hb LR_1.out.lt))
      have BB_2 := Lib.hid (BB_1.out.trans (hb.mono BB_1.out.size))
      have HF_2 := Lib.hid ((HF_1.out.below hb))
      clear hb
      clear c0_0 c0_1 f0_0 f0_1 c1_0 c1_1 c1_2 c1_3 c1_4 c1_5 c1_6 c1_7 c1_8 c1_9 c1_10 f1_0 f1_1 f1_2 f1_3 f1_4 f1_5 f1_6 f1_7 f1_8 f1_9 f1_10 c2_0 c2_1 c2_2 c2_3 c2_4 c2_5 f2_0 f2_1 f2_2 f2_3 f2_4 f2_5
      obtain ⟨c0_0, c0_1⟩ := LF_2.out.cells2
      obtain ⟨f0_0, f0_1⟩ := LF_2.out.free2
      obtain ⟨c1_0, c1_1, c1_2, c1_3, c1_4, c1_5, c1_6, c1_7, c1_8, c1_9, c1_10⟩ := LN_2.out.cells11
      obtain ⟨f1_0, f1_1, f1_2, f1_3, f1_4, f1_5, f1_6, f1_7, f1_8, f1_9, f1_10⟩ := LN_2.out.free11
      obtain ⟨c2_0, c2_1, c2_2, c2_3, c2_4, c2_5⟩ := LR_2.out.cells6
      obtain ⟨f2_0, f2_1, f2_2, f2_3, f2_4, f2_5⟩ := LR_2.out.free6
      go_wp2
      exact ret_ask (w.heap.size + 1 + 1) 130 _ rfl rfl (LR_2.out.put6 _ _ _ _ _ _) rfl rfl ⟨_, rfl, newK_zero _ _, below_put6 BB_2.out (by omega) _ _ _ _ _ _⟩
    · rw [hr] at CR
      by_cases hst : N.epoch < ep
      · rw [show askS ep n T N = ⟨0, kz, 72⟩ from by unfold askS; rw [if_pos ⟨hok, hr⟩, if_pos hst]]
        have ds : decide ((N.epoch : Int) < (ep : Int)) = true := by rw [decide_eq_true_iff]; omega
        have ds2 : decide (N.epoch < ep) = true := by rw [decide_eq_true_iff]; omega
        unfold AskPost
        obtain ⟨kd, e, ol, ls, tk, od, st, un, cd, ky, da⟩ := N
        dsimp only at *
        generalize ky.length = n1 at *
        generalize da.length = n2 at *
        clear hok hN hF hs hr hst
        go_enter Tryz.func62, Tryz.ntmps62
        go_wp2_with fail
        with_reducible refine (CK.out _ HF.out).mono ?_
        rintro x w1 ⟨rfl, hb⟩
        have LF_1 := Lib.hid ((Lies.below LF.out hb LF.out.lt))
        have LN_1 := Lib.hid ((Lies.below LN.out hb LN.out.lt))
        have LR_1 := Lib.hid ((Lies.below LR.out hb LR.out.lt))
        have BB_1 := Lib.hid (BB.out.trans (hb.mono BB.out.size))
        have HF_1 := Lib.hid ((HF.out.below hb))
        clear hb
        obtain ⟨c0_0, c0_1⟩ := LF_1.out.cells2
        obtain ⟨f0_0, f0_1⟩ := LF_1.out.free2
        obtain ⟨c1_0, c1_1, c1_2, c1_3, c1_4, c1_5, c1_6, c1_7, c1_8, c1_9, c1_10⟩ := LN_1.out.cells11
        obtain ⟨f1_0, f1_1, f1_2, f1_3, f1_4, f1_5, f1_6, f1_7, f1_8, f1_9, f1_10⟩ := LN_1.out.free11
        obtain ⟨c2_0, c2_1, c2_2, c2_3, c2_4, c2_5⟩ := LR_1.out.cells6
        obtain ⟨f2_0, f2_1, f2_2, f2_3, f2_4, f2_5⟩ := LR_1.out.free6
        go_wp2_with fail
        with_reducible refine (CR.out _).mono ?_
        rintro x w2 ⟨rfl, hb⟩
        have LF_2 := Lib.hid ((Lies.below LF_1.out hb LF_1.out.lt))
        have LN_2 := Lib.hid ((Lies.below LN_1.out hb LN_1.out.lt))
        have LR_2 := Lib.hid ((Lies.below LR_1.out hb LR_1.out.lt))
        have BB_2 := Lib.hid (BB_1.out.trans (hb.mono BB_1.out.size))
        have HF_2 := Lib.hid ((HF_1.out.below hb))
        clear hb
        clear c0_0 c0_1 f0_0 f0_1 c1_0 c1_1 c1_2 c1_3 c1_4 c1_5 c1_6 c1_7 c1_8 c1_9 c1_10 f1_0 f1_1 f1_2 f1_3 f1_4 f1_5 f1_6 f1_7 f1_8 f1_9 f1_10 c2_0 c2_1 c2_2 c2_3 c2_4 c2_5 f2_0 f2_1 f2_2 f2_3 f2_4 f2_5
        obtain ⟨c0_0, c0_1⟩ := LF_2.out.cells2
        obtain ⟨f0_0, f0_1⟩ := LF_2.out.free2
        obtain ⟨c1_0, c1_1, c1_2, c1_3, c1_4, c1_5, c1_6, c1_7, c1_8, c1_9, c1_10⟩ := LN_2.out.cells11
        obtain ⟨f1_0, f1_1, f1_2, f1_3, f1_4, f1_5, f1_6, f1_7, f1_8, f1_9, f1_10⟩ := LN_2.out.free11
        obtain ⟨c2_0, c2_1, c2_2, c2_3, c2_4, c2_5⟩ := LR_2.out.cells6
        obtain ⟨f2_0, f2_1, f2_2, f2_3, f2_4, f2_5⟩ := LR_2.out.free6
        go_wp2
        exact ret_ask (w.heap.size + 1 + 1) 130 _ rfl rfl (LR_2.out.put6 _ _ _ _ _ _) rfl rfl ⟨_, rfl, newK_zero _ _, below_put6 BB_2.out (by omega) _ _ _ _ _ _⟩
      · have ds : decide ((N.epoch : Int) < (ep : Int)) = false := by rw [decide_eq_false_iff_not]; omega
        have ds2 : decide (N.epoch < ep) = false := by rw [decide_eq_false_iff_not]; omega
        have CF := Lib.hid (fun W (h : FV W A n c T) => find_any ep A n c T N.order N.step N.undo W h hs)
        have HFB : Hid (findB n T (kn N.order N.step N.undo) = has n T (nk N)) := Lib.hid (by unfold findB; rw [hok]; rfl)
        rw [HFB.out] at CF
        cases hh : has n T (nk N)
        · rw [show askS ep n T N = ⟨actN n T N, kz, 0⟩ from by unfold askS; rw [if_pos ⟨hok, hr⟩, if_neg hst, if_neg (by rw [hh]; decide)]]
          rw [hh] at CF
          have CA := Lib.hid (fun W (h : FV W A n c T) => actOnNew_any ep A n c T N A1 A2 c1 c2 W h hs hok)
          unfold AskPost
          generalize actN n T N = ac at *
          generalize findK n T (kn N.order N.step N.undo) = fk at *
          obtain ⟨kd, e, ol, ls, tk, od, st, un, cd, ky, da⟩ := N
          dsimp only at *
          generalize ky.length = n1 at *
          generalize da.length = n2 at *
          clear hok hN hF hs hr hst HFB hh
          go_enter Tryz.func62, Tryz.ntmps62
          go_wp2_with fail
          with_reducible refine (CK.out _ HF.out).mono ?_
          rintro x w1 ⟨rfl, hb⟩
          have LF_1 := Lib.hid ((Lies.below LF.out hb LF.out.lt))
          have LN_1 := Lib.hid ((Lies.below LN.out hb LN.out.lt))
          have LR_1 := Lib.hid ((Lies.below LR.out hb LR.out.lt))
          have BB_1 := Lib.hid (BB.out.trans (hb.mono BB.out.size))
          have HF_1 := Lib.hid ((HF.out.below hb))
          clear hb
          obtain ⟨c0_0, c0_1⟩ := LF_1.out.cells2
          obtain ⟨f0_0, f0_1⟩ := LF_1.out.free2
          obtain ⟨c1_0, c1_1, c1_2, c1_3, c1_4, c1_5, c1_6, c1_7, c1_8, c1_9, c1_10⟩ := LN_1.out.cells11
          obtain ⟨f1_0, f1_1, f1_2, f1_3, f1_4, f1_5, f1_6, f1_7, f1_8, f1_9, f1_10⟩ := LN_1.out.free11
          obtain ⟨c2_0, c2_1, c2_2, c2_3, c2_4, c2_5⟩ := LR_1.out.cells6
          obtain ⟨f2_0, f2_1, f2_2, f2_3, f2_4, f2_5⟩ := LR_1.out.free6
          go_wp2_with fail
          with_reducible refine (CR.out _).mono ?_
          rintro x w2 ⟨rfl, hb⟩
          have LF_2 := Lib.hid ((Lies.below LF_1.out hb LF_1.out.lt))
          have LN_2 := Lib.hid ((Lies.below LN_1.out hb LN_1.out.lt))
          have LR_2 := Lib.hid ((Lies.below LR_1.out hb LR_1.out.lt))
          have BB_2 := Lib.hid (BB_1.out.trans (hb.mono BB_1.out.size))
          have HF_2 := Lib.hid ((HF_1.out.below hb))
          clear hb
          clear c0_0 c0_1 f0_0 f0_1 c1_0 c1_1 c1_2 c1_3 c1_4 c1_5 c1_6 c1_7 c1_8 c1_9 c1_10 f1_0 f1_1 f1_2 f1_3 f1_4 f1_5 f1_6 f1_7 f1_8 f1_9 f1_10 c2_0 c2_1 c2_2 c2_3 c2_4 c2_5 f2_0 f2_1 f2_2 f2_3 f2_4 f2_5
          obtain ⟨c0_0, c0_1⟩ := LF_2.out.cells2
          obtain ⟨f0_0, f0_1⟩ := LF_2.out.free2
          obtain ⟨c1_0, c1_1, c1_2, c1_3, c1_4, c1_5, c1_6, c1_7, c1_8, c1_9, c1_10⟩ := LN_2.out.cells11
          obtain ⟨f1_0, f1_1, f1_2, f1_3, f1_4, f1_5, f1_6, f1_7, f1_8, f1_9, f1_10⟩ := LN_2.out.free11
          obtain ⟨c2_0, c2_1, c2_2, c2_3, c2_4, c2_5⟩ := LR_2.out.cells6
          obtain ⟨f2_0, f2_1, f2_2, f2_3, f2_4, f2_5⟩ := LR_2.out.free6
          go_wp2_with fail
          with_reducible refine (CF.out _ HF_2.out).mono ?_
          rintro x w3 ⟨y, rfl, hy, hb⟩
          have HLT := Lib.hid (Nat.lt_of_lt_of_le LR_2.out.lt hb.size)
          have NY := Lib.hid hy
          clear hy
          obtain ⟨E1, d1, z1, -⟩ := NY.out.2.1.slice
          obtain ⟨E2, d2, z2, -⟩ := NY.out.2.2.slice
          have hyk := NY.out.1
          obtain ⟨yk, yK, yD⟩ := y
          dsimp only at *
          subst z1 z2 hyk
          obtain ⟨yo, ys, yu, ya, yc, yr⟩ := yk
          dsimp only at *
          obtain ⟨m1, hm1⟩ : ∃ m, ya.length = m := ⟨_, rfl⟩
          obtain ⟨m2, hm2⟩ : ∃ m, yr.length = m := ⟨_, rfl⟩
          rw [hm1, hm2] at NY ⊢
          have LF_3 := Lib.hid ((Lies.below LF_2.out hb LF_2.out.lt).alloc (.cells #[.int .u32 (yo : Int), .int .i64 ys, .bool yu, .slice E1 m1 d1, .int .i64 yc, .slice E2 m2 d2] 130))
          have LN_3 := Lib.hid ((Lies.below LN_2.out hb LN_2.out.lt).alloc (.cells #[.int .u32 (yo : Int), .int .i64 ys, .bool yu, .slice E1 m1 d1, .int .i64 yc, .slice E2 m2 d2] 130))
          have LR_3 := Lib.hid ((Lies.below LR_2.out hb LR_2.out.lt).alloc (.cells #[.int .u32 (yo : Int), .int .i64 ys, .bool yu, .slice E1 m1 d1, .int .i64 yc, .slice E2 m2 d2] 130))
          have BB_3 := Lib.hid ((BB_2.out.trans (hb.mono BB_2.out.size)).alloc (BB_2.out.trans (hb.mono BB_2.out.size)).size (.cells #[.int .u32 (yo : Int), .int .i64 ys, .bool yu, .slice E1 m1 d1, .int .i64 yc, .slice E2 m2 d2] 130))
          have HF_3 := Lib.hid ((HF_2.out.below hb).below (below1 _ (.cells #[.int .u32 (yo : Int), .int .i64 ys, .bool yu, .slice E1 m1 d1, .int .i64 yc, .slice E2 m2 d2] 130)))
          have LN3_3 := Lib.hid (Lies.made w3 130 #[.int .u32 (yo : Int), .int .i64 ys, .bool yu, .slice E1 m1 d1, .int .i64 yc, .slice E2 m2 d2])
          clear hb
          clear c0_0 c0_1 f0_0 f0_1 c1_0 c1_1 c1_2 c1_3 c1_4 c1_5 c1_6 c1_7 c1_8 c1_9 c1_10 f1_0 f1_1 f1_2 f1_3 f1_4 f1_5 f1_6 f1_7 f1_8 f1_9 f1_10 c2_0 c2_1 c2_2 c2_3 c2_4 c2_5 f2_0 f2_1 f2_2 f2_3 f2_4 f2_5
          obtain ⟨c0_0, c0_1⟩ := LF_3.out.cells2
          obtain ⟨f0_0, f0_1⟩ := LF_3.out.free2
          obtain ⟨c1_0, c1_1, c1_2, c1_3, c1_4, c1_5, c1_6, c1_7, c1_8, c1_9, c1_10⟩ := LN_3.out.cells11
          obtain ⟨f1_0, f1_1, f1_2, f1_3, f1_4, f1_5, f1_6, f1_7, f1_8, f1_9, f1_10⟩ := LN_3.out.free11
          obtain ⟨c2_0, c2_1, c2_2, c2_3, c2_4, c2_5⟩ := LR_3.out.cells6
          obtain ⟨f2_0, f2_1, f2_2, f2_3, f2_4, f2_5⟩ := LR_3.out.free6
          obtain ⟨c3_0, c3_1, c3_2, c3_3, c3_4, c3_5⟩ := LN3_3.out.cells6
          obtain ⟨f3_0, f3_1, f3_2, f3_3, f3_4, f3_5⟩ := LN3_3.out.free6
          go_wp2_with fail
          with_reducible refine (CA.out _ HF_3.out).mono ?_
          rintro x w4 ⟨rfl, hb⟩
          have LF_4 := Lib.hid ((Lies.below LF_3.out hb LF_3.out.lt))
          have LN_4 := Lib.hid ((Lies.below LN_3.out hb LN_3.out.lt))
          have LR_4 := Lib.hid ((Lies.below LR_3.out hb LR_3.out.lt))
          have LN3_4 := Lib.hid ((Lies.below LN3_3.out hb LN3_3.out.lt))
          have BB_4 := Lib.hid (BB_3.out.trans (hb.mono BB_3.out.size))
          have HF_4 := Lib.hid ((HF_3.out.below hb))
          clear hb
          clear c0_0 c0_1 f0_0 f0_1 c1_0 c1_1 c1_2 c1_3 c1_4 c1_5 c1_6 c1_7 c1_8 c1_9 c1_10 f1_0 f1_1 f1_2 f1_3 f1_4 f1_5 f1_6 f1_7 f1_8 f1_9 f1_10 c2_0 c2_1 c2_2 c2_3 c2_4 c2_5 f2_0 f2_1 f2_2 f2_3 f2_4 f2_5 c3_0 c3_1 c3_2 c3_3 c3_4 c3_5 f3_0 f3_1 f3_2 f3_3 f3_4 f3_5
          obtain ⟨c0_0, c0_1⟩ := LF_4.out.cells2
          obtain ⟨f0_0, f0_1⟩ := LF_4.out.free2
          obtain ⟨c1_0, c1_1, c1_2, c1_3, c1_4, c1_5, c1_6, c1_7, c1_8, c1_9, c1_10⟩ := LN_4.out.cells11
          obtain ⟨f1_0, f1_1, f1_2, f1_3, f1_4, f1_5, f1_6, f1_7, f1_8, f1_9, f1_10⟩ := LN_4.out.free11
          obtain ⟨c2_0, c2_1, c2_2, c2_3, c2_4, c2_5⟩ := LR_4.out.cells6
          obtain ⟨f2_0, f2_1, f2_2, f2_3, f2_4, f2_5⟩ := LR_4.out.free6
          obtain ⟨c3_0, c3_1, c3_2, c3_3, c3_4, c3_5⟩ := LN3_4.out.cells6
          obtain ⟨f3_0, f3_1, f3_2, f3_3, f3_4, f3_5⟩ := LN3_4.out.free6
          go_wp2
          exact ret_ask (w.heap.size + 1 + 1) 130 _ rfl rfl (LR_4.out.put6 _ _ _ _ _ _) rfl rfl ⟨_, rfl, newK_zero _ _, below_put6 BB_4.out (by omega) _ _ _ _ _ _⟩
        · have HFK : Hid (findK n T (kn N.order N.step N.undo) = T (pos T (nk N) n)) := Lib.hid (by unfold findK; rw [if_pos ⟨hok, hh⟩])
          rw [hh] at CF
          have CE := Lib.hid (fun W (a : Option Addr) (m d : Nat) (l : List Nat) (h1 : Bys W a m l) (h2 : Bys W A2 N.data.length N.data) => equal_any a A2 m N.data.length d c2 l N.data W h1 h2)
          by_cases hd : (T (pos T (nk N) n)).a = N.data
          · rw [show askS ep n T N = ⟨2, T (pos T (nk N) n), 0⟩ from by unfold askS; rw [if_pos ⟨hok, hr⟩, if_neg hst, if_pos hh, if_pos hd]]
            rw [← HFK.out] at hd
            rw [← HFK.out]
            unfold AskPost
            generalize findK n T (kn N.order N.step N.undo) = fk at *
            obtain ⟨kd, e, ol, ls, tk, od, st, un, cd, ky, da⟩ := N
            dsimp only at *
            obtain ⟨n1, hn1⟩ : ∃ m, ky.length = m := ⟨_, rfl⟩
            obtain ⟨n2, hn2⟩ : ∃ m, da.length = m := ⟨_, rfl⟩
            rw [hn1, hn2]
            rw [hn1, hn2] at LF LN LR BB CR HF HD
            rw [hn2] at CE
            clear hok hN hF hs hr hst HFB hh hn1 hn2 HFK
            go_enter Tryz.func62, Tryz.ntmps62
            go_wp2_with fail
            with_reducible refine (CK.out _ HF.out).mono ?_
            rintro x w1 ⟨rfl, hb⟩
            have LF_1 := Lib.hid ((Lies.below LF.out hb LF.out.lt))
            have LN_1 := Lib.hid ((Lies.below LN.out hb LN.out.lt))
            have LR_1 := Lib.hid ((Lies.below LR.out hb LR.out.lt))
            have BB_1 := Lib.hid (BB.out.trans (hb.mono BB.out.size))
            have HF_1 := Lib.hid ((HF.out.below hb))
            have HD_1 := Lib.hid ((HD.out.belowD hb))
            clear hb
            obtain ⟨c0_0, c0_1⟩ := LF_1.out.cells2
            obtain ⟨f0_0, f0_1⟩ := LF_1.out.free2
            obtain ⟨c1_0, c1_1, c1_2, c1_3, c1_4, c1_5, c1_6, c1_7, c1_8, c1_9, c1_10⟩ := LN_1.out.cells11
            obtain ⟨f1_0, f1_1, f1_2, f1_3, f1_4, f1_5, f1_6, f1_7, f1_8, f1_9, f1_10⟩ := LN_1.out.free11
            obtain ⟨c2_0, c2_1, c2_2, c2_3, c2_4, c2_5⟩ := LR_1.out.cells6
            obtain ⟨f2_0, f2_1, f2_2, f2_3, f2_4, f2_5⟩ := LR_1.out.free6
            go_wp2_with fail
            with_reducible refine (CR.out _).mono ?_
            rintro x w2 ⟨rfl, hb⟩
            have LF_2 := Lib.hid ((Lies.below LF_1.out hb LF_1.out.lt))
            have LN_2 := Lib.hid ((Lies.below LN_1.out hb LN_1.out.lt))
            have LR_2 := Lib.hid ((Lies.below LR_1.out hb LR_1.out.lt))
            have BB_2 := Lib.hid (BB_1.out.trans (hb.mono BB_1.out.size))
            have HF_2 := Lib.hid ((HF_1.out.below hb))
            have HD_2 := Lib.hid ((HD_1.out.belowD hb))
            clear hb
            clear c0_0 c0_1 f0_0 f0_1 c1_0 c1_1 c1_2 c1_3 c1_4 c1_5 c1_6 c1_7 c1_8 c1_9 c1_10 f1_0 f1_1 f1_2 f1_3 f1_4 f1_5 f1_6 f1_7 f1_8 f1_9 f1_10 c2_0 c2_1 c2_2 c2_3 c2_4 c2_5 f2_0 f2_1 f2_2 f2_3 f2_4 f2_5
            obtain ⟨c0_0, c0_1⟩ := LF_2.out.cells2
            obtain ⟨f0_0, f0_1⟩ := LF_2.out.free2
            obtain ⟨c1_0, c1_1, c1_2, c1_3, c1_4, c1_5, c1_6, c1_7, c1_8, c1_9, c1_10⟩ := LN_2.out.cells11
            obtain ⟨f1_0, f1_1, f1_2, f1_3, f1_4, f1_5, f1_6, f1_7, f1_8, f1_9, f1_10⟩ := LN_2.out.free11
            obtain ⟨c2_0, c2_1, c2_2, c2_3, c2_4, c2_5⟩ := LR_2.out.cells6
            obtain ⟨f2_0, f2_1, f2_2, f2_3, f2_4, f2_5⟩ := LR_2.out.free6
            go_wp2_with fail
            with_reducible refine (CF.out _ HF_2.out).mono ?_
            rintro x w3 ⟨y, rfl, hy, hb⟩
            have HLT := Lib.hid (Nat.lt_of_lt_of_le LR_2.out.lt hb.size)
            have NY := Lib.hid hy
            clear hy
            obtain ⟨E1, d1, z1, -⟩ := NY.out.2.1.slice
            obtain ⟨E2, d2, z2, -⟩ := NY.out.2.2.slice
            have hyk := NY.out.1
            obtain ⟨yk, yK, yD⟩ := y
            dsimp only at *
            subst z1 z2 hyk
            obtain ⟨yo, ys, yu, ya, yc, yr⟩ := yk
            dsimp only at *
            obtain ⟨m1, hm1⟩ : ∃ m, ya.length = m := ⟨_, rfl⟩
            obtain ⟨m2, hm2⟩ : ∃ m, yr.length = m := ⟨_, rfl⟩
            rw [hm1, hm2] at NY ⊢
            have LF_3 := Lib.hid ((Lies.below LF_2.out hb LF_2.out.lt).alloc (.cells #[.int .u32 (yo : Int), .int .i64 ys, .bool yu, .slice E1 m1 d1, .int .i64 yc, .slice E2 m2 d2] 130))
            have LN_3 := Lib.hid ((Lies.below LN_2.out hb LN_2.out.lt).alloc (.cells #[.int .u32 (yo : Int), .int .i64 ys, .bool yu, .slice E1 m1 d1, .int .i64 yc, .slice E2 m2 d2] 130))
            have LR_3 := Lib.hid ((Lies.below LR_2.out hb LR_2.out.lt).alloc (.cells #[.int .u32 (yo : Int), .int .i64 ys, .bool yu, .slice E1 m1 d1, .int .i64 yc, .slice E2 m2 d2] 130))
            have BB_3 := Lib.hid ((BB_2.out.trans (hb.mono BB_2.out.size)).alloc (BB_2.out.trans (hb.mono BB_2.out.size)).size (.cells #[.int .u32 (yo : Int), .int .i64 ys, .bool yu, .slice E1 m1 d1, .int .i64 yc, .slice E2 m2 d2] 130))
            have HF_3 := Lib.hid ((HF_2.out.below hb).below (below1 _ (.cells #[.int .u32 (yo : Int), .int .i64 ys, .bool yu, .slice E1 m1 d1, .int .i64 yc, .slice E2 m2 d2] 130)))
            have HD_3 := Lib.hid ((HD_2.out.belowD hb).below (below1 _ (.cells #[.int .u32 (yo : Int), .int .i64 ys, .bool yu, .slice E1 m1 d1, .int .i64 yc, .slice E2 m2 d2] 130)))
            have LN3_3 := Lib.hid (Lies.made w3 130 #[.int .u32 (yo : Int), .int .i64 ys, .bool yu, .slice E1 m1 d1, .int .i64 yc, .slice E2 m2 d2])
            clear hb
            clear c0_0 c0_1 f0_0 f0_1 c1_0 c1_1 c1_2 c1_3 c1_4 c1_5 c1_6 c1_7 c1_8 c1_9 c1_10 f1_0 f1_1 f1_2 f1_3 f1_4 f1_5 f1_6 f1_7 f1_8 f1_9 f1_10 c2_0 c2_1 c2_2 c2_3 c2_4 c2_5 f2_0 f2_1 f2_2 f2_3 f2_4 f2_5
            obtain ⟨c0_0, c0_1⟩ := LF_3.out.cells2
            obtain ⟨f0_0, f0_1⟩ := LF_3.out.free2
            obtain ⟨c1_0, c1_1, c1_2, c1_3, c1_4, c1_5, c1_6, c1_7, c1_8, c1_9, c1_10⟩ := LN_3.out.cells11
            obtain ⟨f1_0, f1_1, f1_2, f1_3, f1_4, f1_5, f1_6, f1_7, f1_8, f1_9, f1_10⟩ := LN_3.out.free11
            obtain ⟨c2_0, c2_1, c2_2, c2_3, c2_4, c2_5⟩ := LR_3.out.cells6
            obtain ⟨f2_0, f2_1, f2_2, f2_3, f2_4, f2_5⟩ := LR_3.out.free6
            obtain ⟨c3_0, c3_1, c3_2, c3_3, c3_4, c3_5⟩ := LN3_3.out.cells6
            obtain ⟨f3_0, f3_1, f3_2, f3_3, f3_4, f3_5⟩ := LN3_3.out.free6
            have NY3 := Lib.hid (NewK.below NY.out (below1 w3 (.cells #[.int .u32 (yo : Int), .int .i64 ys, .bool yu, .slice E1 m1 d1, .int .i64 yc, .slice E2 m2 d2] 130)))
            have HYB := Lib.hid NY3.out.2.1.bys.1
            go_wp2_with fail
            with_reducible refine (CE.out _ E1 m1 d1 ya HYB.out HD_3.out).mono ?_
            rintro x w4 ⟨rfl, rfl⟩
            rw [show sameB ya da = true from by subst hd; exact sameB_self _]
            clear hd CE HYB
            go_wp2_with fail
            have hne : w.heap.size + 1 + 1 ≠ w3.heap.size := Nat.ne_of_lt HLT.out
            go_region_held3 (fun W => W.cell? ⟨w3.heap.size, 0, none⟩ = some (.int .u32 (yo : Int)) ∧ W.cell? ⟨w3.heap.size, 1, none⟩ = some (.int .i64 ys) ∧ W.cell? ⟨w3.heap.size, 2, none⟩ = some (.bool yu) ∧ W.cell? ⟨w3.heap.size, 3, none⟩ = some (.slice E1 m1 d1) ∧ W.cell? ⟨w3.heap.size, 4, none⟩ = some (.int .i64 yc) ∧ W.cell? ⟨w3.heap.size, 5, none⟩ = some (.slice E2 m2 d2)) (first | go_keep) (fail)
            go_wp2
            refine ret_ask (w.heap.size + 1 + 1) 130 _ rfl rfl (Lies.drew (Lies.put6 LR_3.out _ _ _ _ _ _)) rfl rfl ⟨⟨⟨yo, ys, yu, ya, yc, yr⟩, .slice E1 m1 d1, .slice E2 m2 d2⟩, rfl, ⟨rfl, ?_, ?_⟩, (below_put6 BB_3.out (by omega) _ _ _ _ _ _).drew⟩
            · exact (Own.drew (Own.put6 NY3.out.2.1 LR_3.out (by decide) _ _ _ _ _ _)).mono BB_2.out.size
            · exact (Own.drew (Own.put6 NY3.out.2.2 LR_3.out (by decide) _ _ _ _ _ _)).mono BB_2.out.size
          · rw [show askS ep n T N = ⟨0, kz, 80⟩ from by unfold askS; rw [if_pos ⟨hok, hr⟩, if_neg hst, if_pos hh, if_neg hd]]
            rw [← HFK.out] at hd
            unfold AskPost
            generalize findK n T (kn N.order N.step N.undo) = fk at *
            obtain ⟨kd, e, ol, ls, tk, od, st, un, cd, ky, da⟩ := N
            dsimp only at *
            obtain ⟨n1, hn1⟩ : ∃ m, ky.length = m := ⟨_, rfl⟩
            obtain ⟨n2, hn2⟩ : ∃ m, da.length = m := ⟨_, rfl⟩
            rw [hn1, hn2]
            rw [hn1, hn2] at LF LN LR BB CR HF HD
            rw [hn2] at CE
            clear hok hN hF hs hr hst HFB hh hn1 hn2 HFK
            go_enter Tryz.func62, Tryz.ntmps62
            go_wp2_with fail
            with_reducible refine (CK.out _ HF.out).mono ?_
            rintro x w1 ⟨rfl, hb⟩
            have LF_1 := Lib.hid ((Lies.below LF.out hb LF.out.lt))
            have LN_1 := Lib.hid ((Lies.below LN.out hb LN.out.lt))
            have LR_1 := Lib.hid ((Lies.below LR.out hb LR.out.lt))
            have BB_1 := Lib.hid (BB.out.trans (hb.mono BB.out.size))
            have HF_1 := Lib.hid ((HF.out.below hb))
            have HD_1 := Lib.hid ((HD.out.belowD hb))
            clear hb
            obtain ⟨c0_0, c0_1⟩ := LF_1.out.cells2
            obtain ⟨f0_0, f0_1⟩ := LF_1.out.free2
            obtain ⟨c1_0, c1_1, c1_2, c1_3, c1_4, c1_5, c1_6, c1_7, c1_8, c1_9, c1_10⟩ := LN_1.out.cells11
            obtain ⟨f1_0, f1_1, f1_2, f1_3, f1_4, f1_5, f1_6, f1_7, f1_8, f1_9, f1_10⟩ := LN_1.out.free11
            obtain ⟨c2_0, c2_1, c2_2, c2_3, c2_4, c2_5⟩ := LR_1.out.cells6
            obtain ⟨f2_0, f2_1, f2_2, f2_3, f2_4, f2_5⟩ := LR_1.out.free6
            go_wp2_with fail
            with_reducible refine (CR.out _).mono ?_
            rintro x w2 ⟨rfl, hb⟩
            have LF_2 := Lib.hid ((Lies.below LF_1.out hb LF_1.out.lt))
            have LN_2 := Lib.hid ((Lies.below LN_1.out hb LN_1.out.lt))
            have LR_2 := Lib.hid ((Lies.below LR_1.out hb LR_1.out.lt))
            have BB_2 := Lib.hid (BB_1.out.trans (hb.mono BB_1.out.size))
            have HF_2 := Lib.hid ((HF_1.out.below hb))
            have HD_2 := Lib.hid ((HD_1.out.belowD hb))
            clear hb
            clear c0_0 c0_1 f0_0 f0_1 c1_0 c1_1 c1_2 c1_3 c1_4 c1_5 c1_6 c1_7 c1_8 c1_9 c1_10 f1_0 f1_1 f1_2 f1_3 f1_4 f1_5 f1_6 f1_7 f1_8 f1_9 f1_10 c2_0 c2_1 c2_2 c2_3 c2_4 c2_5 f2_0 f2_1 f2_2 f2_3 f2_4 f2_5
            obtain ⟨c0_0, c0_1⟩ := LF_2.out.cells2
            obtain ⟨f0_0, f0_1⟩ := LF_2.out.free2
            obtain ⟨c1_0, c1_1, c1_2, c1_3, c1_4, c1_5, c1_6, c1_7, c1_8, c1_9, c1_10⟩ := LN_2.out.cells11
            obtain ⟨f1_0, f1_1, f1_2, f1_3, f1_4, f1_5, f1_6, f1_7, f1_8, f1_9, f1_10⟩ := LN_2.out.free11
            obtain ⟨c2_0, c2_1, c2_2, c2_3, c2_4, c2_5⟩ := LR_2.out.cells6
            obtain ⟨f2_0, f2_1, f2_2, f2_3, f2_4, f2_5⟩ := LR_2.out.free6
            go_wp2_with fail
            with_reducible refine (CF.out _ HF_2.out).mono ?_
            rintro x w3 ⟨y, rfl, hy, hb⟩
            have HLT := Lib.hid (Nat.lt_of_lt_of_le LR_2.out.lt hb.size)
            have NY := Lib.hid hy
            clear hy
            obtain ⟨E1, d1, z1, -⟩ := NY.out.2.1.slice
            obtain ⟨E2, d2, z2, -⟩ := NY.out.2.2.slice
            have hyk := NY.out.1
            obtain ⟨yk, yK, yD⟩ := y
            dsimp only at *
            subst z1 z2 hyk
            obtain ⟨yo, ys, yu, ya, yc, yr⟩ := yk
            dsimp only at *
            obtain ⟨m1, hm1⟩ : ∃ m, ya.length = m := ⟨_, rfl⟩
            obtain ⟨m2, hm2⟩ : ∃ m, yr.length = m := ⟨_, rfl⟩
            rw [hm1, hm2] at NY ⊢
            have LF_3 := Lib.hid ((Lies.below LF_2.out hb LF_2.out.lt).alloc (.cells #[.int .u32 (yo : Int), .int .i64 ys, .bool yu, .slice E1 m1 d1, .int .i64 yc, .slice E2 m2 d2] 130))
            have LN_3 := Lib.hid ((Lies.below LN_2.out hb LN_2.out.lt).alloc (.cells #[.int .u32 (yo : Int), .int .i64 ys, .bool yu, .slice E1 m1 d1, .int .i64 yc, .slice E2 m2 d2] 130))
            have LR_3 := Lib.hid ((Lies.below LR_2.out hb LR_2.out.lt).alloc (.cells #[.int .u32 (yo : Int), .int .i64 ys, .bool yu, .slice E1 m1 d1, .int .i64 yc, .slice E2 m2 d2] 130))
            have BB_3 := Lib.hid ((BB_2.out.trans (hb.mono BB_2.out.size)).alloc (BB_2.out.trans (hb.mono BB_2.out.size)).size (.cells #[.int .u32 (yo : Int), .int .i64 ys, .bool yu, .slice E1 m1 d1, .int .i64 yc, .slice E2 m2 d2] 130))
            have HF_3 := Lib.hid ((HF_2.out.below hb).below (below1 _ (.cells #[.int .u32 (yo : Int), .int .i64 ys, .bool yu, .slice E1 m1 d1, .int .i64 yc, .slice E2 m2 d2] 130)))
            have HD_3 := Lib.hid ((HD_2.out.belowD hb).below (below1 _ (.cells #[.int .u32 (yo : Int), .int .i64 ys, .bool yu, .slice E1 m1 d1, .int .i64 yc, .slice E2 m2 d2] 130)))
            have LN3_3 := Lib.hid (Lies.made w3 130 #[.int .u32 (yo : Int), .int .i64 ys, .bool yu, .slice E1 m1 d1, .int .i64 yc, .slice E2 m2 d2])
            clear hb
            clear c0_0 c0_1 f0_0 f0_1 c1_0 c1_1 c1_2 c1_3 c1_4 c1_5 c1_6 c1_7 c1_8 c1_9 c1_10 f1_0 f1_1 f1_2 f1_3 f1_4 f1_5 f1_6 f1_7 f1_8 f1_9 f1_10 c2_0 c2_1 c2_2 c2_3 c2_4 c2_5 f2_0 f2_1 f2_2 f2_3 f2_4 f2_5
            obtain ⟨c0_0, c0_1⟩ := LF_3.out.cells2
            obtain ⟨f0_0, f0_1⟩ := LF_3.out.free2
            obtain ⟨c1_0, c1_1, c1_2, c1_3, c1_4, c1_5, c1_6, c1_7, c1_8, c1_9, c1_10⟩ := LN_3.out.cells11
            obtain ⟨f1_0, f1_1, f1_2, f1_3, f1_4, f1_5, f1_6, f1_7, f1_8, f1_9, f1_10⟩ := LN_3.out.free11
            obtain ⟨c2_0, c2_1, c2_2, c2_3, c2_4, c2_5⟩ := LR_3.out.cells6
            obtain ⟨f2_0, f2_1, f2_2, f2_3, f2_4, f2_5⟩ := LR_3.out.free6
            obtain ⟨c3_0, c3_1, c3_2, c3_3, c3_4, c3_5⟩ := LN3_3.out.cells6
            obtain ⟨f3_0, f3_1, f3_2, f3_3, f3_4, f3_5⟩ := LN3_3.out.free6
            have NY3 := Lib.hid (NewK.below NY.out (below1 w3 (.cells #[.int .u32 (yo : Int), .int .i64 ys, .bool yu, .slice E1 m1 d1, .int .i64 yc, .slice E2 m2 d2] 130)))
            have HYB := Lib.hid NY3.out.2.1.bys.1
            go_wp2_with fail
            with_reducible refine (CE.out _ E1 m1 d1 ya HYB.out HD_3.out).mono ?_
            rintro x w4 ⟨rfl, rfl⟩
            rw [show sameB ya da = false from sameB_ne hd]
            clear hd CE HYB
            go_wp2
            exact ret_ask (w.heap.size + 1 + 1) 130 _ rfl rfl (LR_3.out.put6 _ _ _ _ _ _) rfl rfl ⟨_, rfl, newK_zero _ _, below_put6 BB_3.out (by omega) _ _ _ _ _ _⟩

end Go.Proofs.YtpbclmnhkmcknaaGreat.Fe

namespace Go.Proofs.YtpbclmnhkmcknaaGreat.Fe
open Go.RowKit
set_option maxRecDepth 100000
set_option linter.unusedVariables false
set_option linter.unusedSimpArgs false

theorem mayAnswer_any (act : Nat) (code : Int) (w : World) : Calls Tryz.prog 102 #[.int .i64 (act : Int), .int .i64 code] w fun e w' => e = .returned (.bool (mayB act code)) ∧ w = w' := by
  have C := Lib.hid (fun W => isVerdict_any code W)
  by_cases h3 : act = 3
  · subst h3
    have hm : mayB 3 code = (code == 2) := by unfold mayB; rw [if_pos rfl]; rw [Bool.eq_iff_iff]; simp
    rw [hm, show ((3 : Nat) : Int) = 3 from rfl]
    clear hm
    go_enter Tryz.func102, Tryz.ntmps102
    go_wp2
    go_ret
    exact ⟨rfl, rfl⟩
  · by_cases h4 : act = 4
    · subst h4
      have hm : mayB 4 code = (code == 1) := by unfold mayB; rw [if_neg (by decide), if_pos rfl]; rw [Bool.eq_iff_iff]; simp
      rw [hm, show ((4 : Nat) : Int) = 4 from rfl]
      clear hm
      go_enter Tryz.func102, Tryz.ntmps102
      go_wp2
      go_ret
      exact ⟨rfl, rfl⟩
    · have d3 : ((act : Int) == 3) = false := by simp; omega
      have d4 : ((act : Int) == 4) = false := by simp; omega
      have hm : mayB act code = decide (code = 1 ∨ code = 2) := by unfold mayB; rw [if_neg h3, if_neg h4]
      rw [hm]
      generalize decide (code = 1 ∨ code = 2) = q at *
      clear hm h3 h4
      go_enter Tryz.func102, Tryz.ntmps102
      go_wp2_with fail
      with_reducible refine (C.out _).mono ?_
      rintro e w1 ⟨rfl, rfl⟩
      go_wp2
      go_ret
      exact ⟨rfl, rfl⟩

theorem insX_lt {m j : Nat} {x : Kx} {X : Nat → Kx} (h : j < m) : insX m x X j = X j := by unfold insX; rw [if_pos h]
theorem insX_eq {m : Nat} {x : Kx} {X : Nat → Kx} : insX m x X m = x := by unfold insX; rw [if_neg (by omega), if_pos rfl]
theorem insX_gt {m j : Nat} {x : Kx} {X : Nat → Kx} (h : m < j) : insX m x X j = X (j - 1) := by unfold insX; rw [if_neg (by omega), if_neg (by omega)]
/-- What holds of all, holds of the list with one more. -/
theorem insX_all {P : Kx → Prop} {m n : Nat} {x : Kx} {X : Nat → Kx} (hm : m ≤ n) (hX : ∀ i, i < n → P (X i)) (hx : P x) : ∀ i, i < n + 1 → P (insX m x X i) := by
  intro i hi
  by_cases h : i < m
  · rw [insX_lt h]; exact hX i (by omega)
  · by_cases h2 : i = m
    · rw [h2, insX_eq]; exact hx
    · rw [insX_gt (by omega)]; exact hX (i - 1) (by omega)
theorem insX_two {P : Kx → Kx → Prop} {m n : Nat} {x : Kx} {X : Nat → Kx} (hm : m ≤ n) (hX : ∀ i j, i < n → j < i → P (X j) (X i)) (h1 : ∀ i, i < n → P (X i) x) (h2 : ∀ i, i < n → P x (X i)) : ∀ i j, i < n + 1 → j < i → P (insX m x X j) (insX m x X i) := by
  intro i j hi hj
  by_cases h : i < m
  · rw [insX_lt h, insX_lt (show j < m by omega)]; exact hX i j (by omega) hj
  · by_cases e : i = m
    · rw [e, insX_eq, insX_lt (show j < m by omega)]; exact h1 j (by omega)
    · rw [insX_gt (show m < i by omega)]
      by_cases k : j < m
      · rw [insX_lt k]; exact hX (i - 1) j (by omega) (by omega)
      · by_cases k2 : j = m
        · rw [k2, insX_eq]; exact h2 (i - 1) (by omega)
        · rw [insX_gt (show m < j by omega)]; exact hX (i - 1) (j - 1) (by omega) (by omega)
theorem NF.insert {w : World} {B : Nat} {v' : Value} {n m : Nat} {Y : Nat → Kx} {y : Kx} (hm : m ≤ n) (row : OwnK w B v' (n + 1) (insX m y Y))
    (ha : ∀ i, i < n → Own w B (Y i).K (Y i).k.a) (hr : ∀ i, i < n → Own w B (Y i).D (Y i).k.r) (hb : ∀ i, i < n → (Y i).k.o < 4294967296 ∧ in64 (Y i).k.s ∧ in64 (Y i).k.c)
    (da : ∀ i j, i < n → j < i → ∀ g, (Y j).K.ownBlock = some g → (Y i).K.ownBlock ≠ some g) (dr : ∀ i j, i < n → j < i → ∀ g, (Y j).D.ownBlock = some g → (Y i).D.ownBlock ≠ some g)
    (ya : Own w B y.K y.k.a) (yr : Own w B y.D y.k.r) (yb : y.k.o < 4294967296 ∧ in64 y.k.s ∧ in64 y.k.c)
    (fa : ∀ i, i < n → ∀ g, (Y i).K.ownBlock = some g → y.K.ownBlock ≠ some g) (fr : ∀ i, i < n → ∀ g, (Y i).D.ownBlock = some g → y.D.ownBlock ≠ some g) : NF w B v' (n + 1) (insX m y Y) :=
  ⟨row, insX_all (P := fun x => Own w B x.K x.k.a) hm ha ya, insX_all (P := fun x => Own w B x.D x.k.r) hm hr yr, insX_all (P := fun x => x.k.o < 4294967296 ∧ in64 x.k.s ∧ in64 x.k.c) hm hb yb,
    insX_two (P := fun a b => ∀ g, a.K.ownBlock = some g → b.K.ownBlock ≠ some g) hm da fa (fun i hi g h1 h2 => fa i hi g h2 h1),
    insX_two (P := fun a b => ∀ g, a.D.ownBlock = some g → b.D.ownBlock ≠ some g) hm dr fr (fun i hi g h1 h2 => fr i hi g h2 h1)⟩
/-- What Keep answers. -/
def FencePost (w : World) (E : Nat) (F : Fc) (x : Ending) (w' : World) : Prop :=
  ∃ v X, x = .returned (.tuple #[.agg #[.int .u32 (F.ep : Int), v], .int .i64 (E : Int)]) ∧ NF w' w.heap.size v F.n X ∧ (∀ i, i < F.n → (X i).k = F.T i) ∧ Below w.heap.size w w'
theorem Lies.grownK {w w' : World} {B g n : Nat} {t : TypeId} {cs : Array Value} {v : Value} {X : Nat → Kx} (h : Lies w g t cs) (hr : OwnK w B v n X) (hg : w.grownBy w' v.ownBlock) (hgB : g < B) : Lies w' g t cs :=
  h.grown hg (fun e => by have := hr.block g e.symm; omega)
theorem req_small {N : Note} (h : reqB N = true) : N.data.length ≤ 255 ∧ N.kind = 7 ∧ 0 ≤ N.step ∧ N.step < 16 := by
  unfold reqB at h
  simp only [Bool.and_eq_true, decide_eq_true_eq] at h
  have h2 := h.2.1
  unfold Ent.ok at h2
  simp only [Bool.and_eq_true] at h2
  have := (Ent.inB_iff N).1 h2.2.2.1
  exact ⟨this.2.2.2.2.2, h.1, this.1, this.2.1⟩
theorem ask_ok {ep n : Nat} {T : Nat → Kp} {N : Note} (h : (askS ep n T N).e = 0) : okB n T = true ∧ reqB N = true := by
  unfold askS at h
  by_cases c : okB n T = true ∧ reqB N = true
  · exact c
  · rw [if_neg c] at h; cases h

end Go.Proofs.YtpbclmnhkmcknaaGreat.Fe
