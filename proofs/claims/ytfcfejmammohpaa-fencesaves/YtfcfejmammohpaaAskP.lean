/-
  The contracts of isRequest and actOnNew.
-/
import Derived.Test.YtfcfejmammohpaaFind
import Derived.Test.YtfcfejmammohpaaNChk
namespace Go.Proofs.Ytfcfejmammohpaa
open Go.RowKit
set_option maxRecDepth 100000
set_option linter.unusedVariables false
set_option linter.unusedSimpArgs false

theorem Lies.cells11 {w : World} {g : Nat} {t : TypeId} {z0 z1 z2 z3 z4 z5 z6 z7 z8 z9 z10 : Value} (h : Lies w g t #[z0, z1, z2, z3, z4, z5, z6, z7, z8, z9, z10]) : w.cell? ⟨g, 0, none⟩ = some z0 ∧ w.cell? ⟨g, 1, none⟩ = some z1 ∧ w.cell? ⟨g, 2, none⟩ = some z2 ∧ w.cell? ⟨g, 3, none⟩ = some z3 ∧ w.cell? ⟨g, 4, none⟩ = some z4 ∧ w.cell? ⟨g, 5, none⟩ = some z5 ∧ w.cell? ⟨g, 6, none⟩ = some z6 ∧ w.cell? ⟨g, 7, none⟩ = some z7 ∧ w.cell? ⟨g, 8, none⟩ = some z8 ∧ w.cell? ⟨g, 9, none⟩ = some z9 ∧ w.cell? ⟨g, 10, none⟩ = some z10 :=
  ⟨h.cell 0, h.cell 1, h.cell 2, h.cell 3, h.cell 4, h.cell 5, h.cell 6, h.cell 7, h.cell 8, h.cell 9, h.cell 10⟩
theorem Lies.free11 {w : World} {g : Nat} {t : TypeId} {cs : Array Value} (h : Lies w g t cs) : w.frozen? ⟨g, 0, none⟩ = false ∧ w.frozen? ⟨g, 1, none⟩ = false ∧ w.frozen? ⟨g, 2, none⟩ = false ∧ w.frozen? ⟨g, 3, none⟩ = false ∧ w.frozen? ⟨g, 4, none⟩ = false ∧ w.frozen? ⟨g, 5, none⟩ = false ∧ w.frozen? ⟨g, 6, none⟩ = false ∧ w.frozen? ⟨g, 7, none⟩ = false ∧ w.frozen? ⟨g, 8, none⟩ = false ∧ w.frozen? ⟨g, 9, none⟩ = false ∧ w.frozen? ⟨g, 10, none⟩ = false :=
  ⟨h.free 0, h.free 1, h.free 2, h.free 3, h.free 4, h.free 5, h.free 6, h.free 7, h.free 8, h.free 9, h.free 10⟩
set_option maxHeartbeats 4000000 in
theorem isRequest_any (N : Note) (A1 A2 : Option Addr) (c1 c2 : Nat) (w : World) :
    Calls Try.prog 38 #[.agg (evs N (.slice A1 N.key.length c1) (.slice A2 N.data.length c2))] w fun x w' => x = .returned (.bool (reqB N)) ∧ Below w.heap.size w w' := by
  have C := Lib.hid (fun W => check_any N A1 A2 c1 c2 W)
  have HB := Lib.hid (below1 w (.cells (evs N (.slice A1 N.key.length c1) (.slice A2 N.data.length c2)) 29))
  have LN := Lib.hid (Lies.made w 29 (evs N (.slice A1 N.key.length c1) (.slice A2 N.data.length c2)))
  unfold ChkPost chkN at C
  by_cases h1 : N.kind = 7
  · have d1 : (N.kind == 7) = true := by simpa using h1
    cases h2 : Ent.ok N
    · rw [h2, if_neg (by decide)] at C
      rw [show reqB N = false from by unfold reqB; rw [h2]; simp]
      obtain ⟨kd, e, ol, ls, tk, od, st, un, cd, ky, da⟩ := N
      dsimp only at *
      generalize ky.length = n1 at *
      generalize da.length = n2 at *
      clear h1 h2
      go_enter Try.func38, Try.ntmps38
      go_wp2_with fail
      with_reducible refine (C.out _).mono ?_
      rintro x w1 ⟨rfl, hb⟩
      have LN_1 := Lib.hid ((Lies.below LN.out hb LN.out.lt))
      have HB_1 := Lib.hid (HB.out.trans (hb.mono HB.out.size))
      clear hb
      obtain ⟨c0_0, c0_1, c0_2, c0_3, c0_4, c0_5, c0_6, c0_7, c0_8, c0_9, c0_10⟩ := LN_1.out.cells11
      obtain ⟨f0_0, f0_1, f0_2, f0_3, f0_4, f0_5, f0_6, f0_7, f0_8, f0_9, f0_10⟩ := LN_1.out.free11
      go_wp2
      go_ret
      exact ⟨rfl, HB_1.out⟩
    · rw [h2, if_pos rfl] at C
      by_cases h3 : N.epoch = 0
      · have d3 : ((N.epoch : Int) != 0) = false := by simp [h3]
        rw [show reqB N = false from by unfold reqB; rw [h2]; simp [h3]]
        obtain ⟨kd, e, ol, ls, tk, od, st, un, cd, ky, da⟩ := N
        dsimp only at *
        generalize ky.length = n1 at *
        generalize da.length = n2 at *
        clear h1 h2 h3
        go_enter Try.func38, Try.ntmps38
        go_wp2_with fail
        with_reducible refine (C.out _).mono ?_
        rintro x w1 ⟨rfl, hb⟩
        have LN_1 := Lib.hid ((Lies.below LN.out hb LN.out.lt))
        have HB_1 := Lib.hid (HB.out.trans (hb.mono HB.out.size))
        clear hb
        obtain ⟨c0_0, c0_1, c0_2, c0_3, c0_4, c0_5, c0_6, c0_7, c0_8, c0_9, c0_10⟩ := LN_1.out.cells11
        obtain ⟨f0_0, f0_1, f0_2, f0_3, f0_4, f0_5, f0_6, f0_7, f0_8, f0_9, f0_10⟩ := LN_1.out.free11
        go_wp2
        go_ret
        exact ⟨rfl, HB_1.out⟩
      · have d3 : ((N.epoch : Int) != 0) = true := by simp; omega
        by_cases h4 : N.order = 0
        · have d4 : ((N.order : Int) != 0) = false := by simp [h4]
          rw [show reqB N = false from by unfold reqB; rw [h2]; simp [h4]]
          obtain ⟨kd, e, ol, ls, tk, od, st, un, cd, ky, da⟩ := N
          dsimp only at *
          generalize ky.length = n1 at *
          generalize da.length = n2 at *
          clear h1 h2 h3 h4
          go_enter Try.func38, Try.ntmps38
          go_wp2_with fail
          with_reducible refine (C.out _).mono ?_
          rintro x w1 ⟨rfl, hb⟩
          have LN_1 := Lib.hid ((Lies.below LN.out hb LN.out.lt))
          have HB_1 := Lib.hid (HB.out.trans (hb.mono HB.out.size))
          clear hb
          obtain ⟨c0_0, c0_1, c0_2, c0_3, c0_4, c0_5, c0_6, c0_7, c0_8, c0_9, c0_10⟩ := LN_1.out.cells11
          obtain ⟨f0_0, f0_1, f0_2, f0_3, f0_4, f0_5, f0_6, f0_7, f0_8, f0_9, f0_10⟩ := LN_1.out.free11
          go_wp2
          go_ret
          exact ⟨rfl, HB_1.out⟩
        · have d4 : ((N.order : Int) != 0) = true := by simp; omega
          rw [show reqB N = true from by unfold reqB; rw [h2]; simp [h1, h3, h4]]
          obtain ⟨kd, e, ol, ls, tk, od, st, un, cd, ky, da⟩ := N
          dsimp only at *
          generalize ky.length = n1 at *
          generalize da.length = n2 at *
          clear h1 h2 h3 h4
          go_enter Try.func38, Try.ntmps38
          go_wp2_with fail
          with_reducible refine (C.out _).mono ?_
          rintro x w1 ⟨rfl, hb⟩
          have LN_1 := Lib.hid ((Lies.below LN.out hb LN.out.lt))
          have HB_1 := Lib.hid (HB.out.trans (hb.mono HB.out.size))
          clear hb
          obtain ⟨c0_0, c0_1, c0_2, c0_3, c0_4, c0_5, c0_6, c0_7, c0_8, c0_9, c0_10⟩ := LN_1.out.cells11
          obtain ⟨f0_0, f0_1, f0_2, f0_3, f0_4, f0_5, f0_6, f0_7, f0_8, f0_9, f0_10⟩ := LN_1.out.free11
          go_wp2
          go_ret
          exact ⟨rfl, HB_1.out⟩
  · have d1 : (N.kind == 7) = false := by simpa using h1
    rw [show reqB N = false from by unfold reqB; simp [h1]]
    obtain ⟨kd, e, ol, ls, tk, od, st, un, cd, ky, da⟩ := N
    dsimp only at *
    generalize ky.length = n1 at *
    generalize da.length = n2 at *
    clear h1
    go_enter Try.func38, Try.ntmps38
    go_wp2
    go_ret
    exact ⟨rfl, HB.out⟩

set_option maxHeartbeats 8000000 in
theorem actOnNew_any (ep : Nat) (A : Option Addr) (n c : Nat) (T : Nat → Kp) (N : Note) (A1 A2 : Option Addr) (c1 c2 : Nat) (w : World) (hF : FV w A n c T) (hs : in64 N.step) (hok : okB n T = true) :
    Calls Try.prog 39 #[.agg #[.int .u32 (ep : Int), .slice A n c], .agg (evs N (.slice A1 N.key.length c1) (.slice A2 N.data.length c2))] w fun x w' => x = .returned (.int .i64 (actN n T N : Nat)) ∧ Below w.heap.size w w' := by
  have CF := Lib.hid (fun W (h : FV W A n c T) => find_any ep A n c T N.order N.step (!N.undo) W h hs)
  have BB := Lib.hid (below2 w (.cells #[.int .u32 (ep : Int), .slice A n c] 25) (.cells (evs N (.slice A1 N.key.length c1) (.slice A2 N.data.length c2)) 29))
  have LF := Lib.hid ((Lies.made w 25 #[.int .u32 (ep : Int), .slice A n c]).alloc (.cells (evs N (.slice A1 N.key.length c1) (.slice A2 N.data.length c2)) 29))
  have LN := Lib.hid (Lies.made2 w (.cells #[.int .u32 (ep : Int), .slice A n c] 25) 29 (evs N (.slice A1 N.key.length c1) (.slice A2 N.data.length c2)))
  have HF := Lib.hid (hF.below BB.out)
  have HFB : Hid (findB n T (kn N.order N.step (!N.undo)) = has n T (nk' N)) := Lib.hid (by unfold findB; rw [hok]; rfl)
  rw [HFB.out] at CF
  have HFK : Hid (has n T (nk' N) = true → findK n T (nk' N) = T (pos T (nk' N) n)) := Lib.hid (fun h => by unfold findK; rw [if_pos ⟨hok, h⟩])
  clear hF hs hok HFB
  have HAN : Hid (actN n T N = if N.undo = false ∧ has n T (nk' N) = true then 3 else if N.undo = true ∧ (has n T (nk' N) = false ∨ (T (pos T (nk' N) n)).c = 2) then 4 else 1) := Lib.hid rfl
  cases hh : has n T (nk' N)
  · rw [hh] at CF HAN
    cases hu : N.undo
    · rw [hu, if_neg (by simp), if_neg (by simp)] at HAN
      rw [HAN.out]
      generalize findK n T (kn N.order N.step (!N.undo)) = fk at *
      obtain ⟨kd, e, ol, ls, tk, od, st, un, cd, ky, da⟩ := N
      dsimp only at *
      subst hu
      rw [show (!false) = true from rfl] at CF
      generalize ky.length = n1 at *
      generalize da.length = n2 at *
      clear HAN HFK hh
      go_enter Try.func39, Try.ntmps39
      go_wp2_with fail
      with_reducible refine (CF.out _ HF.out).mono ?_
      rintro x w1 ⟨y, rfl, hy, hb⟩
      obtain ⟨E1, d1, z1, -⟩ := hy.2.1.slice
      obtain ⟨E2, d2, z2, -⟩ := hy.2.2.slice
      have hyk := hy.1
      obtain ⟨yk, yK, yD⟩ := y
      dsimp only at *
      subst z1 z2 hyk
      clear hy
      obtain ⟨yo, ys, yu, ya, yc, yr⟩ := yk
      dsimp only at *
      obtain ⟨m1, hm1⟩ : ∃ m, ya.length = m := ⟨_, rfl⟩
      obtain ⟨m2, hm2⟩ : ∃ m, yr.length = m := ⟨_, rfl⟩
      rw [hm1, hm2]
      clear hm1 hm2
      have LF_1 := Lib.hid ((Lies.below LF.out hb LF.out.lt).alloc (.cells #[.int .u32 (yo : Int), .int .i64 ys, .bool yu, .slice E1 m1 d1, .int .i64 yc, .slice E2 m2 d2] 34))
      have LN_1 := Lib.hid ((Lies.below LN.out hb LN.out.lt).alloc (.cells #[.int .u32 (yo : Int), .int .i64 ys, .bool yu, .slice E1 m1 d1, .int .i64 yc, .slice E2 m2 d2] 34))
      have BB_1 := Lib.hid ((BB.out.trans (hb.mono BB.out.size)).alloc (BB.out.trans (hb.mono BB.out.size)).size (.cells #[.int .u32 (yo : Int), .int .i64 ys, .bool yu, .slice E1 m1 d1, .int .i64 yc, .slice E2 m2 d2] 34))
      have LN1_1 := Lib.hid (Lies.made w1 34 #[.int .u32 (yo : Int), .int .i64 ys, .bool yu, .slice E1 m1 d1, .int .i64 yc, .slice E2 m2 d2])
      clear hb
      obtain ⟨c0_0, c0_1⟩ := LF_1.out.cells2
      obtain ⟨f0_0, f0_1⟩ := LF_1.out.free2
      obtain ⟨c1_0, c1_1, c1_2, c1_3, c1_4, c1_5, c1_6, c1_7, c1_8, c1_9, c1_10⟩ := LN_1.out.cells11
      obtain ⟨f1_0, f1_1, f1_2, f1_3, f1_4, f1_5, f1_6, f1_7, f1_8, f1_9, f1_10⟩ := LN_1.out.free11
      obtain ⟨c2_0, c2_1, c2_2, c2_3, c2_4, c2_5⟩ := LN1_1.out.cells6
      obtain ⟨f2_0, f2_1, f2_2, f2_3, f2_4, f2_5⟩ := LN1_1.out.free6
      go_wp2
      go_ret
      exact ⟨rfl, BB_1.out⟩
    · rw [hu, if_neg (by simp), if_pos (by simp)] at HAN
      rw [HAN.out]
      generalize findK n T (kn N.order N.step (!N.undo)) = fk at *
      obtain ⟨kd, e, ol, ls, tk, od, st, un, cd, ky, da⟩ := N
      dsimp only at *
      subst hu
      rw [show (!true) = false from rfl] at CF
      generalize ky.length = n1 at *
      generalize da.length = n2 at *
      clear HAN HFK hh
      go_enter Try.func39, Try.ntmps39
      go_wp2_with fail
      with_reducible refine (CF.out _ HF.out).mono ?_
      rintro x w1 ⟨y, rfl, hy, hb⟩
      obtain ⟨E1, d1, z1, -⟩ := hy.2.1.slice
      obtain ⟨E2, d2, z2, -⟩ := hy.2.2.slice
      have hyk := hy.1
      obtain ⟨yk, yK, yD⟩ := y
      dsimp only at *
      subst z1 z2 hyk
      clear hy
      obtain ⟨yo, ys, yu, ya, yc, yr⟩ := yk
      dsimp only at *
      obtain ⟨m1, hm1⟩ : ∃ m, ya.length = m := ⟨_, rfl⟩
      obtain ⟨m2, hm2⟩ : ∃ m, yr.length = m := ⟨_, rfl⟩
      rw [hm1, hm2]
      clear hm1 hm2
      have LF_1 := Lib.hid ((Lies.below LF.out hb LF.out.lt).alloc (.cells #[.int .u32 (yo : Int), .int .i64 ys, .bool yu, .slice E1 m1 d1, .int .i64 yc, .slice E2 m2 d2] 34))
      have LN_1 := Lib.hid ((Lies.below LN.out hb LN.out.lt).alloc (.cells #[.int .u32 (yo : Int), .int .i64 ys, .bool yu, .slice E1 m1 d1, .int .i64 yc, .slice E2 m2 d2] 34))
      have BB_1 := Lib.hid ((BB.out.trans (hb.mono BB.out.size)).alloc (BB.out.trans (hb.mono BB.out.size)).size (.cells #[.int .u32 (yo : Int), .int .i64 ys, .bool yu, .slice E1 m1 d1, .int .i64 yc, .slice E2 m2 d2] 34))
      have LN1_1 := Lib.hid (Lies.made w1 34 #[.int .u32 (yo : Int), .int .i64 ys, .bool yu, .slice E1 m1 d1, .int .i64 yc, .slice E2 m2 d2])
      clear hb
      obtain ⟨c0_0, c0_1⟩ := LF_1.out.cells2
      obtain ⟨f0_0, f0_1⟩ := LF_1.out.free2
      obtain ⟨c1_0, c1_1, c1_2, c1_3, c1_4, c1_5, c1_6, c1_7, c1_8, c1_9, c1_10⟩ := LN_1.out.cells11
      obtain ⟨f1_0, f1_1, f1_2, f1_3, f1_4, f1_5, f1_6, f1_7, f1_8, f1_9, f1_10⟩ := LN_1.out.free11
      obtain ⟨c2_0, c2_1, c2_2, c2_3, c2_4, c2_5⟩ := LN1_1.out.cells6
      obtain ⟨f2_0, f2_1, f2_2, f2_3, f2_4, f2_5⟩ := LN1_1.out.free6
      go_wp2
      go_ret
      exact ⟨rfl, BB_1.out⟩
  · rw [hh] at CF HAN
    have HFE := HFK.out hh
    cases hu : N.undo
    · rw [hu, if_pos (by simp)] at HAN
      rw [HAN.out]
      generalize findK n T (kn N.order N.step (!N.undo)) = fk at *
      obtain ⟨kd, e, ol, ls, tk, od, st, un, cd, ky, da⟩ := N
      dsimp only at *
      subst hu
      rw [show (!false) = true from rfl] at CF
      generalize ky.length = n1 at *
      generalize da.length = n2 at *
      clear HAN HFK hh HFE
      go_enter Try.func39, Try.ntmps39
      go_wp2_with fail
      with_reducible refine (CF.out _ HF.out).mono ?_
      rintro x w1 ⟨y, rfl, hy, hb⟩
      obtain ⟨E1, d1, z1, -⟩ := hy.2.1.slice
      obtain ⟨E2, d2, z2, -⟩ := hy.2.2.slice
      have hyk := hy.1
      obtain ⟨yk, yK, yD⟩ := y
      dsimp only at *
      subst z1 z2 hyk
      clear hy
      obtain ⟨yo, ys, yu, ya, yc, yr⟩ := yk
      dsimp only at *
      obtain ⟨m1, hm1⟩ : ∃ m, ya.length = m := ⟨_, rfl⟩
      obtain ⟨m2, hm2⟩ : ∃ m, yr.length = m := ⟨_, rfl⟩
      rw [hm1, hm2]
      clear hm1 hm2
      have LF_1 := Lib.hid ((Lies.below LF.out hb LF.out.lt).alloc (.cells #[.int .u32 (yo : Int), .int .i64 ys, .bool yu, .slice E1 m1 d1, .int .i64 yc, .slice E2 m2 d2] 34))
      have LN_1 := Lib.hid ((Lies.below LN.out hb LN.out.lt).alloc (.cells #[.int .u32 (yo : Int), .int .i64 ys, .bool yu, .slice E1 m1 d1, .int .i64 yc, .slice E2 m2 d2] 34))
      have BB_1 := Lib.hid ((BB.out.trans (hb.mono BB.out.size)).alloc (BB.out.trans (hb.mono BB.out.size)).size (.cells #[.int .u32 (yo : Int), .int .i64 ys, .bool yu, .slice E1 m1 d1, .int .i64 yc, .slice E2 m2 d2] 34))
      have LN1_1 := Lib.hid (Lies.made w1 34 #[.int .u32 (yo : Int), .int .i64 ys, .bool yu, .slice E1 m1 d1, .int .i64 yc, .slice E2 m2 d2])
      clear hb
      obtain ⟨c0_0, c0_1⟩ := LF_1.out.cells2
      obtain ⟨f0_0, f0_1⟩ := LF_1.out.free2
      obtain ⟨c1_0, c1_1, c1_2, c1_3, c1_4, c1_5, c1_6, c1_7, c1_8, c1_9, c1_10⟩ := LN_1.out.cells11
      obtain ⟨f1_0, f1_1, f1_2, f1_3, f1_4, f1_5, f1_6, f1_7, f1_8, f1_9, f1_10⟩ := LN_1.out.free11
      obtain ⟨c2_0, c2_1, c2_2, c2_3, c2_4, c2_5⟩ := LN1_1.out.cells6
      obtain ⟨f2_0, f2_1, f2_2, f2_3, f2_4, f2_5⟩ := LN1_1.out.free6
      go_wp2
      go_ret
      exact ⟨rfl, BB_1.out⟩
    · by_cases hc : (T (pos T (nk' N) n)).c = 2
      · rw [hu, if_neg (by simp), if_pos (by simp [hc])] at HAN
        rw [HAN.out]
        rw [← HFE] at hc
        generalize findK n T (nk' N) = fk at *
        obtain ⟨kd, e, ol, ls, tk, od, st, un, cd, ky, da⟩ := N
        dsimp only at *
        subst hu
        rw [show (!true) = false from rfl] at CF
        generalize ky.length = n1 at *
        generalize da.length = n2 at *
        clear HAN HFK hh HFE
        go_enter Try.func39, Try.ntmps39
        go_wp2_with fail
        with_reducible refine (CF.out _ HF.out).mono ?_
        rintro x w1 ⟨y, rfl, hy, hb⟩
        obtain ⟨E1, d1, z1, -⟩ := hy.2.1.slice
        obtain ⟨E2, d2, z2, -⟩ := hy.2.2.slice
        have hyk := hy.1
        obtain ⟨yk, yK, yD⟩ := y
        dsimp only at *
        subst z1 z2 hyk
        clear hy
        obtain ⟨yo, ys, yu, ya, yc, yr⟩ := yk
        dsimp only at *
        obtain ⟨m1, hm1⟩ : ∃ m, ya.length = m := ⟨_, rfl⟩
        obtain ⟨m2, hm2⟩ : ∃ m, yr.length = m := ⟨_, rfl⟩
        rw [hm1, hm2]
        clear hm1 hm2
        have LF_1 := Lib.hid ((Lies.below LF.out hb LF.out.lt).alloc (.cells #[.int .u32 (yo : Int), .int .i64 ys, .bool yu, .slice E1 m1 d1, .int .i64 yc, .slice E2 m2 d2] 34))
        have LN_1 := Lib.hid ((Lies.below LN.out hb LN.out.lt).alloc (.cells #[.int .u32 (yo : Int), .int .i64 ys, .bool yu, .slice E1 m1 d1, .int .i64 yc, .slice E2 m2 d2] 34))
        have BB_1 := Lib.hid ((BB.out.trans (hb.mono BB.out.size)).alloc (BB.out.trans (hb.mono BB.out.size)).size (.cells #[.int .u32 (yo : Int), .int .i64 ys, .bool yu, .slice E1 m1 d1, .int .i64 yc, .slice E2 m2 d2] 34))
        have LN1_1 := Lib.hid (Lies.made w1 34 #[.int .u32 (yo : Int), .int .i64 ys, .bool yu, .slice E1 m1 d1, .int .i64 yc, .slice E2 m2 d2])
        clear hb
        obtain ⟨c0_0, c0_1⟩ := LF_1.out.cells2
        obtain ⟨f0_0, f0_1⟩ := LF_1.out.free2
        obtain ⟨c1_0, c1_1, c1_2, c1_3, c1_4, c1_5, c1_6, c1_7, c1_8, c1_9, c1_10⟩ := LN_1.out.cells11
        obtain ⟨f1_0, f1_1, f1_2, f1_3, f1_4, f1_5, f1_6, f1_7, f1_8, f1_9, f1_10⟩ := LN_1.out.free11
        obtain ⟨c2_0, c2_1, c2_2, c2_3, c2_4, c2_5⟩ := LN1_1.out.cells6
        obtain ⟨f2_0, f2_1, f2_2, f2_3, f2_4, f2_5⟩ := LN1_1.out.free6
        have dq : (yc == 2) = true := by simpa using hc
        clear hc
        go_wp2
        go_ret
        exact ⟨rfl, BB_1.out⟩
      · rw [hu, if_neg (by simp), if_neg (by simp [hc])] at HAN
        rw [HAN.out]
        rw [← HFE] at hc
        generalize findK n T (nk' N) = fk at *
        obtain ⟨kd, e, ol, ls, tk, od, st, un, cd, ky, da⟩ := N
        dsimp only at *
        subst hu
        rw [show (!true) = false from rfl] at CF
        generalize ky.length = n1 at *
        generalize da.length = n2 at *
        clear HAN HFK hh HFE
        go_enter Try.func39, Try.ntmps39
        go_wp2_with fail
        with_reducible refine (CF.out _ HF.out).mono ?_
        rintro x w1 ⟨y, rfl, hy, hb⟩
        obtain ⟨E1, d1, z1, -⟩ := hy.2.1.slice
        obtain ⟨E2, d2, z2, -⟩ := hy.2.2.slice
        have hyk := hy.1
        obtain ⟨yk, yK, yD⟩ := y
        dsimp only at *
        subst z1 z2 hyk
        clear hy
        obtain ⟨yo, ys, yu, ya, yc, yr⟩ := yk
        dsimp only at *
        obtain ⟨m1, hm1⟩ : ∃ m, ya.length = m := ⟨_, rfl⟩
        obtain ⟨m2, hm2⟩ : ∃ m, yr.length = m := ⟨_, rfl⟩
        rw [hm1, hm2]
        clear hm1 hm2
        have LF_1 := Lib.hid ((Lies.below LF.out hb LF.out.lt).alloc (.cells #[.int .u32 (yo : Int), .int .i64 ys, .bool yu, .slice E1 m1 d1, .int .i64 yc, .slice E2 m2 d2] 34))
        have LN_1 := Lib.hid ((Lies.below LN.out hb LN.out.lt).alloc (.cells #[.int .u32 (yo : Int), .int .i64 ys, .bool yu, .slice E1 m1 d1, .int .i64 yc, .slice E2 m2 d2] 34))
        have BB_1 := Lib.hid ((BB.out.trans (hb.mono BB.out.size)).alloc (BB.out.trans (hb.mono BB.out.size)).size (.cells #[.int .u32 (yo : Int), .int .i64 ys, .bool yu, .slice E1 m1 d1, .int .i64 yc, .slice E2 m2 d2] 34))
        have LN1_1 := Lib.hid (Lies.made w1 34 #[.int .u32 (yo : Int), .int .i64 ys, .bool yu, .slice E1 m1 d1, .int .i64 yc, .slice E2 m2 d2])
        clear hb
        obtain ⟨c0_0, c0_1⟩ := LF_1.out.cells2
        obtain ⟨f0_0, f0_1⟩ := LF_1.out.free2
        obtain ⟨c1_0, c1_1, c1_2, c1_3, c1_4, c1_5, c1_6, c1_7, c1_8, c1_9, c1_10⟩ := LN_1.out.cells11
        obtain ⟨f1_0, f1_1, f1_2, f1_3, f1_4, f1_5, f1_6, f1_7, f1_8, f1_9, f1_10⟩ := LN_1.out.free11
        obtain ⟨c2_0, c2_1, c2_2, c2_3, c2_4, c2_5⟩ := LN1_1.out.cells6
        obtain ⟨f2_0, f2_1, f2_2, f2_3, f2_4, f2_5⟩ := LN1_1.out.free6
        have dq : (yc == 2) = false := by simpa using hc
        clear hc
        go_wp2
        go_ret
        exact ⟨rfl, BB_1.out⟩

end Go.Proofs.Ytfcfejmammohpaa
