/-
  FenceAsks, walked.
-/
import Derived.Test.YtfcfejmammohpaaMany
import Derived.Test.YtfcfejmammohpaaRAsk
import Derived.Test.YtfcfejmammohpaaRSee
import Derived.Test.YtfcfejmammohpaaSameF
import Derived.Test.YtfcfejmammohpaaSpoilK
import Derived.Test.YtfcfejmammohpaaKnownP
namespace Go.Proofs.Ytfcfejmammohpaa
open Go.RowKit
set_option maxRecDepth 100000
set_option linter.unusedVariables false
set_option linter.unusedSimpArgs false

theorem kx_eta (y : Kx) (A1 : Option Addr) (c1 : Nat) (A2 : Option Addr) (c2 : Nat) (k : Kp) (h1 : y.k = k) (h2 : y.K = .slice A1 k.a.length c1) (h3 : y.D = .slice A2 k.r.length c2) : y = ⟨k, .slice A1 k.a.length c1, .slice A2 k.r.length c2⟩ := by
  obtain ⟨a, b, c⟩ := y
  simp only at h1 h2 h3
  subst h1 h2 h3
  rfl
theorem ask_small {ep n : Nat} {T : Nat → Kp} {N : Note} (h : ∀ i, i < n → (T i).r.length ≤ 40000) : (askS ep n T N).k.r.length ≤ 40000 := by
  unfold askS
  split
  · split
    · exact Nat.zero_le _
    · split
      · split
        · rename_i h1 _
          exact h _ (has_at h1).1
        · exact Nat.zero_le _
      · exact Nat.zero_le _
  · exact Nat.zero_le _
theorem find_small {n : Nat} {T : Nat → Kp} {q : Int} (h : ∀ i, i < n → (T i).a.length ≤ 40000) : (findK n T q).a.length ≤ 40000 := by
  unfold findK
  split
  · rename_i h1
    exact h _ (has_at h1.2).1
  · exact Nat.zero_le _
/-- The first j of what See gave are written over. -/
def AkR (w2 : World) (B7 : Nat) (As : Option Addr) (m cs : Nat) (Ys : Nat → Kx) (gS gX gF : Nat) (fs fx ff : Array Value) (i : Value) (wr : World) : Prop :=
  ∃ (j : Nat) (X : Nat → Kx), j ≤ m ∧ i = .int .i64 (j : Int) ∧ OwnK wr B7 (.slice As m cs) m X ∧ (∀ k, j ≤ k → k < m → X k = Ys k) ∧ (∀ k, j ≤ k → k < m → Own wr B7 (Ys k).D (Ys k).k.r) ∧
    Lies wr gS 25 fs ∧ Lies wr gX 25 fx ∧ Lies wr gF 25 ff ∧ Below w2.heap.size w2 wr
set_option maxHeartbeats 32000000 in
theorem fenceAsks_walk (ep : Nat) (A : Option Addr) (n c : Nat) (T : Nat → Kp) (N : Note) (A1 A2 : Option Addr) (c1 c2 : Nat) (epoch : Nat) (w : World) (hep : ep < 4294967296) (hF : FV w A n c T) (hN : EntV w N A1 A2 c1 c2) (hs : in64 N.step) (he : epoch < 4294967296) (KN : ∀ W, Calls Try.prog 12 #[] W fun x w' => x = .returned (.bool true) ∧ Below W.heap.size W w') :
    Calls Try.prog 3 #[.agg #[.int .u32 (ep : Int), .slice A n c], .agg (evs N (.slice A1 N.key.length c1) (.slice A2 N.data.length c2)), .int .u32 (epoch : Int)] w fun x w' => x = .returned (.bool true) ∧ Below w.heap.size w w' := by
  have CM := Lib.hid (fun W (h : FV W A n c T) => many_any ep A n c T N A1 A2 c1 c2 W h (Nat.le_trans hN.dc hN.dm))
  have CKN := Lib.hid KN
  clear KN
  have BB := Lib.hid (below2 w (.cells #[.int .u32 (ep : Int), .slice A n c] 25) (.cells (evs N (.slice A1 N.key.length c1) (.slice A2 N.data.length c2)) 29))
  have LF := Lib.hid ((Lies.made w 25 #[.int .u32 (ep : Int), .slice A n c]).alloc (.cells (evs N (.slice A1 N.key.length c1) (.slice A2 N.data.length c2)) 29))
  have LN := Lib.hid (Lies.made2 w (.cells #[.int .u32 (ep : Int), .slice A n c] 25) 29 (evs N (.slice A1 N.key.length c1) (.slice A2 N.data.length c2)))
  have HF := Lib.hid (hF.below BB.out)
  have HN := Lib.hid (hN.below BB.out)
  have CC := Lib.hid (fun W (h : FV W A n c T) (hsm : Small n T N) => copy_fence ep A n c T W h (by have := hsm.1; omega) (fun i hi => by have := hsm.2.2 i hi; omega))
  have CA := Lib.hid (fun W Ax cx (h : FV W Ax n cx T) (hn : EntV W N A1 A2 c1 c2) => ask_any ep Ax n cx T N A1 A2 c1 c2 W h hn hs hep)
  have CRA := Lib.hid (fun W (h : FV W A n c T) (hn : EntV W N A1 A2 c1 c2) => rask_any ep A n c T N A1 A2 c1 c2 W h hn hs hep)
  have CFi := Lib.hid (fun W Ax cx (h : FV W Ax n cx T) => find_any ep Ax n cx T N.order N.step N.undo W h hs)
  have CRF := Lib.hid (fun W (h : FV W A n c T) => rfind_any ep A n c T N.order N.step N.undo W h hs)
  have CSe := Lib.hid (fun W Ax cx (h : FV W Ax n cx T) => see_any ep Ax n cx T epoch W h)
  have CRS := Lib.hid (fun W (h : FV W A n c T) => rsee_any ep A n c T epoch W h)
  have CSK := Lib.hid (fun (x y : Kx) W (hx : KT W x) (hy : KT W y) => sameKept_any x y W hx hy)
  have CSF := Lib.hid (fun (e0 : Nat) (Aa Ab : Option Addr) (m ca cb : Nat) (S : Nat → Kp) W (h1 : FV W Aa m ca S) (h2 : FV W Ab m cb S) => same_fence e0 Aa Ab m ca cb S W h1 h2)
  have CCh := Lib.hid (fun W Ax cx (h : FV W Ax n cx T) => check_fence ep Ax n cx T W h)
  have CRC := Lib.hid (fun W (h : FV W A n c T) => rcheck_fence ep A n c T W h)
  have HAS := Lib.hid (fun h => ask_small (ep := ep) (n := n) (T := T) (N := N) h)
  have HFS := Lib.hid (fun h => find_small (n := n) (T := T) (q := kn N.order N.step N.undo) h)
  have HSN : Hid ((seeF ep n T epoch).n ≤ n ∧ ∀ i, i < (seeF ep n T epoch).n → (seeF ep n T epoch).T i = T i) := Lib.hid (by
    unfold seeF
    split
    · exact ⟨Nat.le_refl _, fun i _ => rfl⟩
    · exact ⟨Nat.zero_le _, fun i hi => absurd hi (Nat.not_lt_zero i)⟩)
  generalize hSM : Small n T N = SM at *
  have HSM := Lib.hid hSM
  clear hSM
  unfold ManyPost at CM
  unfold AskPost at CA
  unfold RAskPost at CRA
  unfold FindPost at CFi
  unfold RFindPost at CRF
  unfold FencePost at CSe CRS
  generalize askS ep n T N = an at *
  generalize findK n T (kn N.order N.step N.undo) = fk at *
  generalize findB n T (kn N.order N.step N.undo) = fb at *
  generalize seeE ep n T epoch = se at *
  generalize seeF ep n T epoch = sf at *
  generalize chkC n T = ck at *
  obtain ⟨an1, an2, an3⟩ := an
  obtain ⟨sf1, sf2, sf3⟩ := sf
  clear hF hN hs
  obtain ⟨kd, e, ol, ls, tk, od, st, un, cd, ky, da⟩ := N
  dsimp only at *
  have HSMD : Hid (SM → n ≤ 300 ∧ ∀ i, i < n → (T i).a.length ≤ 40000 ∧ (T i).r.length ≤ 40000) := Lib.hid (fun h => by rw [← HSM.out] at h; exact ⟨h.1, h.2.2⟩)
  clear HSM
  generalize hky : ky.length = n1 at *
  generalize hda : da.length = n2 at *
  clear hky hda
  go_enter Try.func3, Try.ntmps3
  go_wp2_with fail
  with_reducible refine (CM.out _ HF.out).mono ?_
  rintro x w1 ⟨bm, rfl, hsm, hb⟩
  have HSMb := Lib.hid hsm
  clear hsm
  have LF_1 := Lib.hid ((Lies.below LF.out hb LF.out.lt))
  have LN_1 := Lib.hid ((Lies.below LN.out hb LN.out.lt))
  have BB_1 := Lib.hid (BB.out.trans (hb.mono BB.out.size))
  have HF_1 := Lib.hid ((HF.out.below hb))
  have HN_1 := Lib.hid ((HN.out.below hb))
  clear hb
  obtain ⟨c0_0, c0_1⟩ := LF_1.out.cells2
  obtain ⟨f0_0, f0_1⟩ := LF_1.out.free2
  obtain ⟨c1_0, c1_1, c1_2, c1_3, c1_4, c1_5, c1_6, c1_7, c1_8, c1_9, c1_10⟩ := LN_1.out.cells11
  obtain ⟨f1_0, f1_1, f1_2, f1_3, f1_4, f1_5, f1_6, f1_7, f1_8, f1_9, f1_10⟩ := LN_1.out.free11
  cases bm
  · have HS0 := Lib.hid (HSMb.out rfl)
    have HS1 := Lib.hid (HSMD.out HS0.out)
    clear HSMb HSMD CM
    go_wp2_with fail
    with_reducible refine (CC.out _ HF_1.out HS0.out).mono ?_
    rintro x w2 ⟨vx, Yx, rfl, hnf, hyk, hb⟩
    obtain ⟨Ax, cx, rfl, hfx⟩ := hnf.fv hyk
    have HX := Lib.hid hfx
    clear hnf hyk hfx
    have LF_2 := Lib.hid ((Lies.below LF_1.out hb LF_1.out.lt).alloc (.cells #[.int .u32 (ep : Int), .slice Ax n cx] 25))
    have LN_2 := Lib.hid ((Lies.below LN_1.out hb LN_1.out.lt).alloc (.cells #[.int .u32 (ep : Int), .slice Ax n cx] 25))
    have BB_2 := Lib.hid ((BB_1.out.trans (hb.mono BB_1.out.size)).alloc (BB_1.out.trans (hb.mono BB_1.out.size)).size (.cells #[.int .u32 (ep : Int), .slice Ax n cx] 25))
    have HF_2 := Lib.hid ((HF_1.out.below hb).below (below1 _ (.cells #[.int .u32 (ep : Int), .slice Ax n cx] 25)))
    have HN_2 := Lib.hid ((HN_1.out.below hb).below (below1 _ (.cells #[.int .u32 (ep : Int), .slice Ax n cx] 25)))
    have LN2_2 := Lib.hid (Lies.made w2 25 #[.int .u32 (ep : Int), .slice Ax n cx])
    clear hb
    clear c0_0 c0_1 f0_0 f0_1 c1_0 c1_1 c1_2 c1_3 c1_4 c1_5 c1_6 c1_7 c1_8 c1_9 c1_10 f1_0 f1_1 f1_2 f1_3 f1_4 f1_5 f1_6 f1_7 f1_8 f1_9 f1_10
    obtain ⟨c0_0, c0_1⟩ := LF_2.out.cells2
    obtain ⟨f0_0, f0_1⟩ := LF_2.out.free2
    obtain ⟨c1_0, c1_1, c1_2, c1_3, c1_4, c1_5, c1_6, c1_7, c1_8, c1_9, c1_10⟩ := LN_2.out.cells11
    obtain ⟨f1_0, f1_1, f1_2, f1_3, f1_4, f1_5, f1_6, f1_7, f1_8, f1_9, f1_10⟩ := LN_2.out.free11
    obtain ⟨c2_0, c2_1⟩ := LN2_2.out.cells2
    obtain ⟨f2_0, f2_1⟩ := LN2_2.out.free2
    have HX2 := Lib.hid (HX.out.below (below1 w2 (.cells #[.int .u32 (ep : Int), .slice Ax n cx] 25)))
    have BX2 := Lib.hid (Below.refl (w2.alloc (.cells #[.int .u32 (ep : Int), .slice Ax n cx] 25)).heap.size (w2.alloc (.cells #[.int .u32 (ep : Int), .slice Ax n cx] 25)))
    go_wp2_with fail
    with_reducible refine (CA.out _ Ax cx HX2.out HN_2.out).mono ?_
    rintro x w3 ⟨y, rfl, hy, hb⟩
    obtain ⟨bA, bd, z1, -⟩ := hy.2.1.slice
    obtain ⟨bB, be, z2, -⟩ := hy.2.2.slice
    have hye := kx_eta y bA bd bB be an2 hy.1 z1 z2
    subst hye
    have HOb := Lib.hid hy
    clear hy z1 z2
    have LF_3 := Lib.hid ((Lies.below LF_2.out hb LF_2.out.lt).alloc (.cells #[.int .u32 (an2.o : Int), .int .i64 an2.s, .bool an2.u, .slice bA an2.a.length bd, .int .i64 an2.c, .slice bB an2.r.length be] 34))
    have LN_3 := Lib.hid ((Lies.below LN_2.out hb LN_2.out.lt).alloc (.cells #[.int .u32 (an2.o : Int), .int .i64 an2.s, .bool an2.u, .slice bA an2.a.length bd, .int .i64 an2.c, .slice bB an2.r.length be] 34))
    have LN2_3 := Lib.hid ((Lies.below LN2_2.out hb LN2_2.out.lt).alloc (.cells #[.int .u32 (an2.o : Int), .int .i64 an2.s, .bool an2.u, .slice bA an2.a.length bd, .int .i64 an2.c, .slice bB an2.r.length be] 34))
    have BB_3 := Lib.hid ((BB_2.out.trans (hb.mono BB_2.out.size)).alloc (BB_2.out.trans (hb.mono BB_2.out.size)).size (.cells #[.int .u32 (an2.o : Int), .int .i64 an2.s, .bool an2.u, .slice bA an2.a.length bd, .int .i64 an2.c, .slice bB an2.r.length be] 34))
    have HF_3 := Lib.hid ((HF_2.out.below hb).below (below1 _ (.cells #[.int .u32 (an2.o : Int), .int .i64 an2.s, .bool an2.u, .slice bA an2.a.length bd, .int .i64 an2.c, .slice bB an2.r.length be] 34)))
    have HN_3 := Lib.hid ((HN_2.out.below hb).below (below1 _ (.cells #[.int .u32 (an2.o : Int), .int .i64 an2.s, .bool an2.u, .slice bA an2.a.length bd, .int .i64 an2.c, .slice bB an2.r.length be] 34)))
    have HX2_3 := Lib.hid ((HX2.out.below hb).below (below1 _ (.cells #[.int .u32 (an2.o : Int), .int .i64 an2.s, .bool an2.u, .slice bA an2.a.length bd, .int .i64 an2.c, .slice bB an2.r.length be] 34)))
    have BX2_3 := Lib.hid ((BX2.out.trans (hb.mono BX2.out.size)).alloc (BX2.out.trans (hb.mono BX2.out.size)).size (.cells #[.int .u32 (an2.o : Int), .int .i64 an2.s, .bool an2.u, .slice bA an2.a.length bd, .int .i64 an2.c, .slice bB an2.r.length be] 34))
    have LN3_3 := Lib.hid (Lies.made w3 34 #[.int .u32 (an2.o : Int), .int .i64 an2.s, .bool an2.u, .slice bA an2.a.length bd, .int .i64 an2.c, .slice bB an2.r.length be])
    clear hb
    clear c0_0 c0_1 f0_0 f0_1 c1_0 c1_1 c1_2 c1_3 c1_4 c1_5 c1_6 c1_7 c1_8 c1_9 c1_10 f1_0 f1_1 f1_2 f1_3 f1_4 f1_5 f1_6 f1_7 f1_8 f1_9 f1_10 c2_0 c2_1 f2_0 f2_1
    obtain ⟨c0_0, c0_1⟩ := LF_3.out.cells2
    obtain ⟨f0_0, f0_1⟩ := LF_3.out.free2
    obtain ⟨c1_0, c1_1, c1_2, c1_3, c1_4, c1_5, c1_6, c1_7, c1_8, c1_9, c1_10⟩ := LN_3.out.cells11
    obtain ⟨f1_0, f1_1, f1_2, f1_3, f1_4, f1_5, f1_6, f1_7, f1_8, f1_9, f1_10⟩ := LN_3.out.free11
    obtain ⟨c2_0, c2_1⟩ := LN2_3.out.cells2
    obtain ⟨f2_0, f2_1⟩ := LN2_3.out.free2
    obtain ⟨c3_0, c3_1, c3_2, c3_3, c3_4, c3_5⟩ := LN3_3.out.cells6
    obtain ⟨f3_0, f3_1, f3_2, f3_3, f3_4, f3_5⟩ := LN3_3.out.free6
    have HOb3 := Lib.hid (HOb.out.below (below1 w3 (.cells #[.int .u32 (an2.o : Int), .int .i64 an2.s, .bool an2.u, .slice bA an2.a.length bd, .int .i64 an2.c, .slice bB an2.r.length be] 34)))
    go_wp2_with fail
    with_reducible refine (CRA.out _ HF_3.out HN_3.out).mono ?_
    rintro x w4 ⟨y, rfl, hyk, hkt, hb⟩
    obtain ⟨dA, dd, z1, -⟩ := hkt.a
    obtain ⟨dB, de, z2, -⟩ := hkt.r
    rw [hyk] at z1 z2
    have hye := kx_eta y dA dd dB de an2 hyk z1 z2
    subst hye
    have HKd := Lib.hid hkt
    clear hkt z1 z2 hyk
    have LF_4 := Lib.hid ((Lies.below LF_3.out hb LF_3.out.lt).alloc (.cells #[.int .u32 (an2.o : Int), .int .i64 an2.s, .bool an2.u, .slice dA an2.a.length dd, .int .i64 an2.c, .slice dB an2.r.length de] 34))
    have LN_4 := Lib.hid ((Lies.below LN_3.out hb LN_3.out.lt).alloc (.cells #[.int .u32 (an2.o : Int), .int .i64 an2.s, .bool an2.u, .slice dA an2.a.length dd, .int .i64 an2.c, .slice dB an2.r.length de] 34))
    have LN2_4 := Lib.hid ((Lies.below LN2_3.out hb LN2_3.out.lt).alloc (.cells #[.int .u32 (an2.o : Int), .int .i64 an2.s, .bool an2.u, .slice dA an2.a.length dd, .int .i64 an2.c, .slice dB an2.r.length de] 34))
    have LN3_4 := Lib.hid ((Lies.below LN3_3.out hb LN3_3.out.lt).alloc (.cells #[.int .u32 (an2.o : Int), .int .i64 an2.s, .bool an2.u, .slice dA an2.a.length dd, .int .i64 an2.c, .slice dB an2.r.length de] 34))
    have BB_4 := Lib.hid ((BB_3.out.trans (hb.mono BB_3.out.size)).alloc (BB_3.out.trans (hb.mono BB_3.out.size)).size (.cells #[.int .u32 (an2.o : Int), .int .i64 an2.s, .bool an2.u, .slice dA an2.a.length dd, .int .i64 an2.c, .slice dB an2.r.length de] 34))
    have HF_4 := Lib.hid ((HF_3.out.below hb).below (below1 _ (.cells #[.int .u32 (an2.o : Int), .int .i64 an2.s, .bool an2.u, .slice dA an2.a.length dd, .int .i64 an2.c, .slice dB an2.r.length de] 34)))
    have HN_4 := Lib.hid ((HN_3.out.below hb).below (below1 _ (.cells #[.int .u32 (an2.o : Int), .int .i64 an2.s, .bool an2.u, .slice dA an2.a.length dd, .int .i64 an2.c, .slice dB an2.r.length de] 34)))
    have HX2_4 := Lib.hid ((HX2_3.out.below hb).below (below1 _ (.cells #[.int .u32 (an2.o : Int), .int .i64 an2.s, .bool an2.u, .slice dA an2.a.length dd, .int .i64 an2.c, .slice dB an2.r.length de] 34)))
    have BX2_4 := Lib.hid ((BX2_3.out.trans (hb.mono BX2_3.out.size)).alloc (BX2_3.out.trans (hb.mono BX2_3.out.size)).size (.cells #[.int .u32 (an2.o : Int), .int .i64 an2.s, .bool an2.u, .slice dA an2.a.length dd, .int .i64 an2.c, .slice dB an2.r.length de] 34))
    have HOb3_4 := Lib.hid ((HOb3.out.below hb).below (below1 _ (.cells #[.int .u32 (an2.o : Int), .int .i64 an2.s, .bool an2.u, .slice dA an2.a.length dd, .int .i64 an2.c, .slice dB an2.r.length de] 34)))
    have LN4_4 := Lib.hid (Lies.made w4 34 #[.int .u32 (an2.o : Int), .int .i64 an2.s, .bool an2.u, .slice dA an2.a.length dd, .int .i64 an2.c, .slice dB an2.r.length de])
    clear hb
    clear c0_0 c0_1 f0_0 f0_1 c1_0 c1_1 c1_2 c1_3 c1_4 c1_5 c1_6 c1_7 c1_8 c1_9 c1_10 f1_0 f1_1 f1_2 f1_3 f1_4 f1_5 f1_6 f1_7 f1_8 f1_9 f1_10 c2_0 c2_1 f2_0 f2_1 c3_0 c3_1 c3_2 c3_3 c3_4 c3_5 f3_0 f3_1 f3_2 f3_3 f3_4 f3_5
    obtain ⟨c0_0, c0_1⟩ := LF_4.out.cells2
    obtain ⟨f0_0, f0_1⟩ := LF_4.out.free2
    obtain ⟨c1_0, c1_1, c1_2, c1_3, c1_4, c1_5, c1_6, c1_7, c1_8, c1_9, c1_10⟩ := LN_4.out.cells11
    obtain ⟨f1_0, f1_1, f1_2, f1_3, f1_4, f1_5, f1_6, f1_7, f1_8, f1_9, f1_10⟩ := LN_4.out.free11
    obtain ⟨c2_0, c2_1⟩ := LN2_4.out.cells2
    obtain ⟨f2_0, f2_1⟩ := LN2_4.out.free2
    obtain ⟨c3_0, c3_1, c3_2, c3_3, c3_4, c3_5⟩ := LN3_4.out.cells6
    obtain ⟨f3_0, f3_1, f3_2, f3_3, f3_4, f3_5⟩ := LN3_4.out.free6
    obtain ⟨c4_0, c4_1, c4_2, c4_3, c4_4, c4_5⟩ := LN4_4.out.cells6
    obtain ⟨f4_0, f4_1, f4_2, f4_3, f4_4, f4_5⟩ := LN4_4.out.free6
    have HKd4 := Lib.hid (HKd.out.below (below1 w4 (.cells #[.int .u32 (an2.o : Int), .int .i64 an2.s, .bool an2.u, .slice dA an2.a.length dd, .int .i64 an2.c, .slice dB an2.r.length de] 34)))
    go_wp2_with fail
    with_reducible refine (CFi.out _ Ax cx HX2_4.out).mono ?_
    rintro x w5 ⟨y, rfl, hy, hb⟩
    obtain ⟨kA, kd, z1, -⟩ := hy.2.1.slice
    obtain ⟨kB, ke, z2, -⟩ := hy.2.2.slice
    have hye := kx_eta y kA kd kB ke fk hy.1 z1 z2
    subst hye
    have HOk := Lib.hid hy
    clear hy z1 z2
    have LF_5 := Lib.hid ((Lies.below LF_4.out hb LF_4.out.lt).alloc (.cells #[.int .u32 (fk.o : Int), .int .i64 fk.s, .bool fk.u, .slice kA fk.a.length kd, .int .i64 fk.c, .slice kB fk.r.length ke] 34))
    have LN_5 := Lib.hid ((Lies.below LN_4.out hb LN_4.out.lt).alloc (.cells #[.int .u32 (fk.o : Int), .int .i64 fk.s, .bool fk.u, .slice kA fk.a.length kd, .int .i64 fk.c, .slice kB fk.r.length ke] 34))
    have LN2_5 := Lib.hid ((Lies.below LN2_4.out hb LN2_4.out.lt).alloc (.cells #[.int .u32 (fk.o : Int), .int .i64 fk.s, .bool fk.u, .slice kA fk.a.length kd, .int .i64 fk.c, .slice kB fk.r.length ke] 34))
    have LN3_5 := Lib.hid ((Lies.below LN3_4.out hb LN3_4.out.lt).alloc (.cells #[.int .u32 (fk.o : Int), .int .i64 fk.s, .bool fk.u, .slice kA fk.a.length kd, .int .i64 fk.c, .slice kB fk.r.length ke] 34))
    have LN4_5 := Lib.hid ((Lies.below LN4_4.out hb LN4_4.out.lt).alloc (.cells #[.int .u32 (fk.o : Int), .int .i64 fk.s, .bool fk.u, .slice kA fk.a.length kd, .int .i64 fk.c, .slice kB fk.r.length ke] 34))
    have BB_5 := Lib.hid ((BB_4.out.trans (hb.mono BB_4.out.size)).alloc (BB_4.out.trans (hb.mono BB_4.out.size)).size (.cells #[.int .u32 (fk.o : Int), .int .i64 fk.s, .bool fk.u, .slice kA fk.a.length kd, .int .i64 fk.c, .slice kB fk.r.length ke] 34))
    have HF_5 := Lib.hid ((HF_4.out.below hb).below (below1 _ (.cells #[.int .u32 (fk.o : Int), .int .i64 fk.s, .bool fk.u, .slice kA fk.a.length kd, .int .i64 fk.c, .slice kB fk.r.length ke] 34)))
    have HN_5 := Lib.hid ((HN_4.out.below hb).below (below1 _ (.cells #[.int .u32 (fk.o : Int), .int .i64 fk.s, .bool fk.u, .slice kA fk.a.length kd, .int .i64 fk.c, .slice kB fk.r.length ke] 34)))
    have HX2_5 := Lib.hid ((HX2_4.out.below hb).below (below1 _ (.cells #[.int .u32 (fk.o : Int), .int .i64 fk.s, .bool fk.u, .slice kA fk.a.length kd, .int .i64 fk.c, .slice kB fk.r.length ke] 34)))
    have BX2_5 := Lib.hid ((BX2_4.out.trans (hb.mono BX2_4.out.size)).alloc (BX2_4.out.trans (hb.mono BX2_4.out.size)).size (.cells #[.int .u32 (fk.o : Int), .int .i64 fk.s, .bool fk.u, .slice kA fk.a.length kd, .int .i64 fk.c, .slice kB fk.r.length ke] 34))
    have HOb3_5 := Lib.hid ((HOb3_4.out.below hb).below (below1 _ (.cells #[.int .u32 (fk.o : Int), .int .i64 fk.s, .bool fk.u, .slice kA fk.a.length kd, .int .i64 fk.c, .slice kB fk.r.length ke] 34)))
    have HKd4_5 := Lib.hid ((HKd4.out.below hb).below (below1 _ (.cells #[.int .u32 (fk.o : Int), .int .i64 fk.s, .bool fk.u, .slice kA fk.a.length kd, .int .i64 fk.c, .slice kB fk.r.length ke] 34)))
    have LN5_5 := Lib.hid (Lies.made w5 34 #[.int .u32 (fk.o : Int), .int .i64 fk.s, .bool fk.u, .slice kA fk.a.length kd, .int .i64 fk.c, .slice kB fk.r.length ke])
    clear hb
    clear c0_0 c0_1 f0_0 f0_1 c1_0 c1_1 c1_2 c1_3 c1_4 c1_5 c1_6 c1_7 c1_8 c1_9 c1_10 f1_0 f1_1 f1_2 f1_3 f1_4 f1_5 f1_6 f1_7 f1_8 f1_9 f1_10 c2_0 c2_1 f2_0 f2_1 c3_0 c3_1 c3_2 c3_3 c3_4 c3_5 f3_0 f3_1 f3_2 f3_3 f3_4 f3_5 c4_0 c4_1 c4_2 c4_3 c4_4 c4_5 f4_0 f4_1 f4_2 f4_3 f4_4 f4_5
    obtain ⟨c0_0, c0_1⟩ := LF_5.out.cells2
    obtain ⟨f0_0, f0_1⟩ := LF_5.out.free2
    obtain ⟨c1_0, c1_1, c1_2, c1_3, c1_4, c1_5, c1_6, c1_7, c1_8, c1_9, c1_10⟩ := LN_5.out.cells11
    obtain ⟨f1_0, f1_1, f1_2, f1_3, f1_4, f1_5, f1_6, f1_7, f1_8, f1_9, f1_10⟩ := LN_5.out.free11
    obtain ⟨c2_0, c2_1⟩ := LN2_5.out.cells2
    obtain ⟨f2_0, f2_1⟩ := LN2_5.out.free2
    obtain ⟨c3_0, c3_1, c3_2, c3_3, c3_4, c3_5⟩ := LN3_5.out.cells6
    obtain ⟨f3_0, f3_1, f3_2, f3_3, f3_4, f3_5⟩ := LN3_5.out.free6
    obtain ⟨c4_0, c4_1, c4_2, c4_3, c4_4, c4_5⟩ := LN4_5.out.cells6
    obtain ⟨f4_0, f4_1, f4_2, f4_3, f4_4, f4_5⟩ := LN4_5.out.free6
    obtain ⟨c5_0, c5_1, c5_2, c5_3, c5_4, c5_5⟩ := LN5_5.out.cells6
    obtain ⟨f5_0, f5_1, f5_2, f5_3, f5_4, f5_5⟩ := LN5_5.out.free6
    have HOk5 := Lib.hid (HOk.out.below (below1 w5 (.cells #[.int .u32 (fk.o : Int), .int .i64 fk.s, .bool fk.u, .slice kA fk.a.length kd, .int .i64 fk.c, .slice kB fk.r.length ke] 34)))
    go_wp2_with fail
    with_reducible refine (CRF.out _ HF_5.out).mono ?_
    rintro x w6 ⟨y, rfl, hyk, hkt, hb⟩
    obtain ⟨vA, vd, z1, -⟩ := hkt.a
    obtain ⟨vB, ve, z2, -⟩ := hkt.r
    rw [hyk] at z1 z2
    have hye := kx_eta y vA vd vB ve fk hyk z1 z2
    subst hye
    have HKv := Lib.hid hkt
    clear hkt z1 z2 hyk
    have LF_6 := Lib.hid ((Lies.below LF_5.out hb LF_5.out.lt).alloc (.cells #[.int .u32 (fk.o : Int), .int .i64 fk.s, .bool fk.u, .slice vA fk.a.length vd, .int .i64 fk.c, .slice vB fk.r.length ve] 34))
    have LN_6 := Lib.hid ((Lies.below LN_5.out hb LN_5.out.lt).alloc (.cells #[.int .u32 (fk.o : Int), .int .i64 fk.s, .bool fk.u, .slice vA fk.a.length vd, .int .i64 fk.c, .slice vB fk.r.length ve] 34))
    have LN2_6 := Lib.hid ((Lies.below LN2_5.out hb LN2_5.out.lt).alloc (.cells #[.int .u32 (fk.o : Int), .int .i64 fk.s, .bool fk.u, .slice vA fk.a.length vd, .int .i64 fk.c, .slice vB fk.r.length ve] 34))
    have LN3_6 := Lib.hid ((Lies.below LN3_5.out hb LN3_5.out.lt).alloc (.cells #[.int .u32 (fk.o : Int), .int .i64 fk.s, .bool fk.u, .slice vA fk.a.length vd, .int .i64 fk.c, .slice vB fk.r.length ve] 34))
    have LN4_6 := Lib.hid ((Lies.below LN4_5.out hb LN4_5.out.lt).alloc (.cells #[.int .u32 (fk.o : Int), .int .i64 fk.s, .bool fk.u, .slice vA fk.a.length vd, .int .i64 fk.c, .slice vB fk.r.length ve] 34))
    have LN5_6 := Lib.hid ((Lies.below LN5_5.out hb LN5_5.out.lt).alloc (.cells #[.int .u32 (fk.o : Int), .int .i64 fk.s, .bool fk.u, .slice vA fk.a.length vd, .int .i64 fk.c, .slice vB fk.r.length ve] 34))
    have BB_6 := Lib.hid ((BB_5.out.trans (hb.mono BB_5.out.size)).alloc (BB_5.out.trans (hb.mono BB_5.out.size)).size (.cells #[.int .u32 (fk.o : Int), .int .i64 fk.s, .bool fk.u, .slice vA fk.a.length vd, .int .i64 fk.c, .slice vB fk.r.length ve] 34))
    have HF_6 := Lib.hid ((HF_5.out.below hb).below (below1 _ (.cells #[.int .u32 (fk.o : Int), .int .i64 fk.s, .bool fk.u, .slice vA fk.a.length vd, .int .i64 fk.c, .slice vB fk.r.length ve] 34)))
    have HN_6 := Lib.hid ((HN_5.out.below hb).below (below1 _ (.cells #[.int .u32 (fk.o : Int), .int .i64 fk.s, .bool fk.u, .slice vA fk.a.length vd, .int .i64 fk.c, .slice vB fk.r.length ve] 34)))
    have HX2_6 := Lib.hid ((HX2_5.out.below hb).below (below1 _ (.cells #[.int .u32 (fk.o : Int), .int .i64 fk.s, .bool fk.u, .slice vA fk.a.length vd, .int .i64 fk.c, .slice vB fk.r.length ve] 34)))
    have BX2_6 := Lib.hid ((BX2_5.out.trans (hb.mono BX2_5.out.size)).alloc (BX2_5.out.trans (hb.mono BX2_5.out.size)).size (.cells #[.int .u32 (fk.o : Int), .int .i64 fk.s, .bool fk.u, .slice vA fk.a.length vd, .int .i64 fk.c, .slice vB fk.r.length ve] 34))
    have HOb3_6 := Lib.hid ((HOb3_5.out.below hb).below (below1 _ (.cells #[.int .u32 (fk.o : Int), .int .i64 fk.s, .bool fk.u, .slice vA fk.a.length vd, .int .i64 fk.c, .slice vB fk.r.length ve] 34)))
    have HKd4_6 := Lib.hid ((HKd4_5.out.below hb).below (below1 _ (.cells #[.int .u32 (fk.o : Int), .int .i64 fk.s, .bool fk.u, .slice vA fk.a.length vd, .int .i64 fk.c, .slice vB fk.r.length ve] 34)))
    have HOk5_6 := Lib.hid ((HOk5.out.below hb).below (below1 _ (.cells #[.int .u32 (fk.o : Int), .int .i64 fk.s, .bool fk.u, .slice vA fk.a.length vd, .int .i64 fk.c, .slice vB fk.r.length ve] 34)))
    have LN6_6 := Lib.hid (Lies.made w6 34 #[.int .u32 (fk.o : Int), .int .i64 fk.s, .bool fk.u, .slice vA fk.a.length vd, .int .i64 fk.c, .slice vB fk.r.length ve])
    clear hb
    clear c0_0 c0_1 f0_0 f0_1 c1_0 c1_1 c1_2 c1_3 c1_4 c1_5 c1_6 c1_7 c1_8 c1_9 c1_10 f1_0 f1_1 f1_2 f1_3 f1_4 f1_5 f1_6 f1_7 f1_8 f1_9 f1_10 c2_0 c2_1 f2_0 f2_1 c3_0 c3_1 c3_2 c3_3 c3_4 c3_5 f3_0 f3_1 f3_2 f3_3 f3_4 f3_5 c4_0 c4_1 c4_2 c4_3 c4_4 c4_5 f4_0 f4_1 f4_2 f4_3 f4_4 f4_5 c5_0 c5_1 c5_2 c5_3 c5_4 c5_5 f5_0 f5_1 f5_2 f5_3 f5_4 f5_5
    obtain ⟨c0_0, c0_1⟩ := LF_6.out.cells2
    obtain ⟨f0_0, f0_1⟩ := LF_6.out.free2
    obtain ⟨c1_0, c1_1, c1_2, c1_3, c1_4, c1_5, c1_6, c1_7, c1_8, c1_9, c1_10⟩ := LN_6.out.cells11
    obtain ⟨f1_0, f1_1, f1_2, f1_3, f1_4, f1_5, f1_6, f1_7, f1_8, f1_9, f1_10⟩ := LN_6.out.free11
    obtain ⟨c2_0, c2_1⟩ := LN2_6.out.cells2
    obtain ⟨f2_0, f2_1⟩ := LN2_6.out.free2
    obtain ⟨c3_0, c3_1, c3_2, c3_3, c3_4, c3_5⟩ := LN3_6.out.cells6
    obtain ⟨f3_0, f3_1, f3_2, f3_3, f3_4, f3_5⟩ := LN3_6.out.free6
    obtain ⟨c4_0, c4_1, c4_2, c4_3, c4_4, c4_5⟩ := LN4_6.out.cells6
    obtain ⟨f4_0, f4_1, f4_2, f4_3, f4_4, f4_5⟩ := LN4_6.out.free6
    obtain ⟨c5_0, c5_1, c5_2, c5_3, c5_4, c5_5⟩ := LN5_6.out.cells6
    obtain ⟨f5_0, f5_1, f5_2, f5_3, f5_4, f5_5⟩ := LN5_6.out.free6
    obtain ⟨c6_0, c6_1, c6_2, c6_3, c6_4, c6_5⟩ := LN6_6.out.cells6
    obtain ⟨f6_0, f6_1, f6_2, f6_3, f6_4, f6_5⟩ := LN6_6.out.free6
    have HKv6 := Lib.hid (HKv.out.below (below1 w6 (.cells #[.int .u32 (fk.o : Int), .int .i64 fk.s, .bool fk.u, .slice vA fk.a.length vd, .int .i64 fk.c, .slice vB fk.r.length ve] 34)))
    go_wp2_with fail
    with_reducible refine (CSe.out _ Ax cx HX2_6.out).mono ?_
    rintro x w7 ⟨vs, Ys, rfl, hnf, hyk, hb⟩
    obtain ⟨As, cs, rfl, hfs⟩ := hnf.fv hyk
    have HFs := Lib.hid hfs
    have NFs := Lib.hid hnf
    have HYs := Lib.hid hyk
    clear hnf hyk hfs
    have LF_7 := Lib.hid ((Lies.below LF_6.out hb LF_6.out.lt).alloc (.cells #[.int .u32 (sf1 : Int), .slice As sf2 cs] 25))
    have LN_7 := Lib.hid ((Lies.below LN_6.out hb LN_6.out.lt).alloc (.cells #[.int .u32 (sf1 : Int), .slice As sf2 cs] 25))
    have LN2_7 := Lib.hid ((Lies.below LN2_6.out hb LN2_6.out.lt).alloc (.cells #[.int .u32 (sf1 : Int), .slice As sf2 cs] 25))
    have LN3_7 := Lib.hid ((Lies.below LN3_6.out hb LN3_6.out.lt).alloc (.cells #[.int .u32 (sf1 : Int), .slice As sf2 cs] 25))
    have LN4_7 := Lib.hid ((Lies.below LN4_6.out hb LN4_6.out.lt).alloc (.cells #[.int .u32 (sf1 : Int), .slice As sf2 cs] 25))
    have LN5_7 := Lib.hid ((Lies.below LN5_6.out hb LN5_6.out.lt).alloc (.cells #[.int .u32 (sf1 : Int), .slice As sf2 cs] 25))
    have LN6_7 := Lib.hid ((Lies.below LN6_6.out hb LN6_6.out.lt).alloc (.cells #[.int .u32 (sf1 : Int), .slice As sf2 cs] 25))
    have BB_7 := Lib.hid ((BB_6.out.trans (hb.mono BB_6.out.size)).alloc (BB_6.out.trans (hb.mono BB_6.out.size)).size (.cells #[.int .u32 (sf1 : Int), .slice As sf2 cs] 25))
    have HF_7 := Lib.hid ((HF_6.out.below hb).below (below1 _ (.cells #[.int .u32 (sf1 : Int), .slice As sf2 cs] 25)))
    have HN_7 := Lib.hid ((HN_6.out.below hb).below (below1 _ (.cells #[.int .u32 (sf1 : Int), .slice As sf2 cs] 25)))
    have HX2_7 := Lib.hid ((HX2_6.out.below hb).below (below1 _ (.cells #[.int .u32 (sf1 : Int), .slice As sf2 cs] 25)))
    have BX2_7 := Lib.hid ((BX2_6.out.trans (hb.mono BX2_6.out.size)).alloc (BX2_6.out.trans (hb.mono BX2_6.out.size)).size (.cells #[.int .u32 (sf1 : Int), .slice As sf2 cs] 25))
    have HOb3_7 := Lib.hid ((HOb3_6.out.below hb).below (below1 _ (.cells #[.int .u32 (sf1 : Int), .slice As sf2 cs] 25)))
    have HKd4_7 := Lib.hid ((HKd4_6.out.below hb).below (below1 _ (.cells #[.int .u32 (sf1 : Int), .slice As sf2 cs] 25)))
    have HOk5_7 := Lib.hid ((HOk5_6.out.below hb).below (below1 _ (.cells #[.int .u32 (sf1 : Int), .slice As sf2 cs] 25)))
    have HKv6_7 := Lib.hid ((HKv6.out.below hb).below (below1 _ (.cells #[.int .u32 (sf1 : Int), .slice As sf2 cs] 25)))
    have LN7_7 := Lib.hid (Lies.made w7 25 #[.int .u32 (sf1 : Int), .slice As sf2 cs])
    clear hb
    clear c0_0 c0_1 f0_0 f0_1 c1_0 c1_1 c1_2 c1_3 c1_4 c1_5 c1_6 c1_7 c1_8 c1_9 c1_10 f1_0 f1_1 f1_2 f1_3 f1_4 f1_5 f1_6 f1_7 f1_8 f1_9 f1_10 c2_0 c2_1 f2_0 f2_1 c3_0 c3_1 c3_2 c3_3 c3_4 c3_5 f3_0 f3_1 f3_2 f3_3 f3_4 f3_5 c4_0 c4_1 c4_2 c4_3 c4_4 c4_5 f4_0 f4_1 f4_2 f4_3 f4_4 f4_5 c5_0 c5_1 c5_2 c5_3 c5_4 c5_5 f5_0 f5_1 f5_2 f5_3 f5_4 f5_5 c6_0 c6_1 c6_2 c6_3 c6_4 c6_5 f6_0 f6_1 f6_2 f6_3 f6_4 f6_5
    obtain ⟨c0_0, c0_1⟩ := LF_7.out.cells2
    obtain ⟨f0_0, f0_1⟩ := LF_7.out.free2
    obtain ⟨c1_0, c1_1, c1_2, c1_3, c1_4, c1_5, c1_6, c1_7, c1_8, c1_9, c1_10⟩ := LN_7.out.cells11
    obtain ⟨f1_0, f1_1, f1_2, f1_3, f1_4, f1_5, f1_6, f1_7, f1_8, f1_9, f1_10⟩ := LN_7.out.free11
    obtain ⟨c2_0, c2_1⟩ := LN2_7.out.cells2
    obtain ⟨f2_0, f2_1⟩ := LN2_7.out.free2
    obtain ⟨c3_0, c3_1, c3_2, c3_3, c3_4, c3_5⟩ := LN3_7.out.cells6
    obtain ⟨f3_0, f3_1, f3_2, f3_3, f3_4, f3_5⟩ := LN3_7.out.free6
    obtain ⟨c4_0, c4_1, c4_2, c4_3, c4_4, c4_5⟩ := LN4_7.out.cells6
    obtain ⟨f4_0, f4_1, f4_2, f4_3, f4_4, f4_5⟩ := LN4_7.out.free6
    obtain ⟨c5_0, c5_1, c5_2, c5_3, c5_4, c5_5⟩ := LN5_7.out.cells6
    obtain ⟨f5_0, f5_1, f5_2, f5_3, f5_4, f5_5⟩ := LN5_7.out.free6
    obtain ⟨c6_0, c6_1, c6_2, c6_3, c6_4, c6_5⟩ := LN6_7.out.cells6
    obtain ⟨f6_0, f6_1, f6_2, f6_3, f6_4, f6_5⟩ := LN6_7.out.free6
    obtain ⟨c7_0, c7_1⟩ := LN7_7.out.cells2
    obtain ⟨f7_0, f7_1⟩ := LN7_7.out.free2
    have HFs7 := Lib.hid (HFs.out.below (below1 w7 (.cells #[.int .u32 (sf1 : Int), .slice As sf2 cs] 25)))
    have NFs7 := Lib.hid (NFs.out.below (below1 w7 (.cells #[.int .u32 (sf1 : Int), .slice As sf2 cs] 25)))
    go_wp2_with fail
    with_reducible refine (CRS.out _ HF_7.out).mono ?_
    rintro x w8 ⟨vt, Yt, rfl, hnf, hyk, hb⟩
    obtain ⟨At, ct, rfl, hft⟩ := hnf.fv hyk
    have HFt := Lib.hid hft
    clear hnf hyk hft
    have LF_8 := Lib.hid ((Lies.below LF_7.out hb LF_7.out.lt).alloc (.cells #[.int .u32 (sf1 : Int), .slice At sf2 ct] 25))
    have LN_8 := Lib.hid ((Lies.below LN_7.out hb LN_7.out.lt).alloc (.cells #[.int .u32 (sf1 : Int), .slice At sf2 ct] 25))
    have LN2_8 := Lib.hid ((Lies.below LN2_7.out hb LN2_7.out.lt).alloc (.cells #[.int .u32 (sf1 : Int), .slice At sf2 ct] 25))
    have LN3_8 := Lib.hid ((Lies.below LN3_7.out hb LN3_7.out.lt).alloc (.cells #[.int .u32 (sf1 : Int), .slice At sf2 ct] 25))
    have LN4_8 := Lib.hid ((Lies.below LN4_7.out hb LN4_7.out.lt).alloc (.cells #[.int .u32 (sf1 : Int), .slice At sf2 ct] 25))
    have LN5_8 := Lib.hid ((Lies.below LN5_7.out hb LN5_7.out.lt).alloc (.cells #[.int .u32 (sf1 : Int), .slice At sf2 ct] 25))
    have LN6_8 := Lib.hid ((Lies.below LN6_7.out hb LN6_7.out.lt).alloc (.cells #[.int .u32 (sf1 : Int), .slice At sf2 ct] 25))
    have LN7_8 := Lib.hid ((Lies.below LN7_7.out hb LN7_7.out.lt).alloc (.cells #[.int .u32 (sf1 : Int), .slice At sf2 ct] 25))
    have BB_8 := Lib.hid ((BB_7.out.trans (hb.mono BB_7.out.size)).alloc (BB_7.out.trans (hb.mono BB_7.out.size)).size (.cells #[.int .u32 (sf1 : Int), .slice At sf2 ct] 25))
    have HF_8 := Lib.hid ((HF_7.out.below hb).below (below1 _ (.cells #[.int .u32 (sf1 : Int), .slice At sf2 ct] 25)))
    have HN_8 := Lib.hid ((HN_7.out.below hb).below (below1 _ (.cells #[.int .u32 (sf1 : Int), .slice At sf2 ct] 25)))
    have HX2_8 := Lib.hid ((HX2_7.out.below hb).below (below1 _ (.cells #[.int .u32 (sf1 : Int), .slice At sf2 ct] 25)))
    have BX2_8 := Lib.hid ((BX2_7.out.trans (hb.mono BX2_7.out.size)).alloc (BX2_7.out.trans (hb.mono BX2_7.out.size)).size (.cells #[.int .u32 (sf1 : Int), .slice At sf2 ct] 25))
    have HOb3_8 := Lib.hid ((HOb3_7.out.below hb).below (below1 _ (.cells #[.int .u32 (sf1 : Int), .slice At sf2 ct] 25)))
    have HKd4_8 := Lib.hid ((HKd4_7.out.below hb).below (below1 _ (.cells #[.int .u32 (sf1 : Int), .slice At sf2 ct] 25)))
    have HOk5_8 := Lib.hid ((HOk5_7.out.below hb).below (below1 _ (.cells #[.int .u32 (sf1 : Int), .slice At sf2 ct] 25)))
    have HKv6_8 := Lib.hid ((HKv6_7.out.below hb).below (below1 _ (.cells #[.int .u32 (sf1 : Int), .slice At sf2 ct] 25)))
    have HFs7_8 := Lib.hid ((HFs7.out.below hb).below (below1 _ (.cells #[.int .u32 (sf1 : Int), .slice At sf2 ct] 25)))
    have NFs7_8 := Lib.hid ((NFs7.out.below hb).below (below1 _ (.cells #[.int .u32 (sf1 : Int), .slice At sf2 ct] 25)))
    have LN8_8 := Lib.hid (Lies.made w8 25 #[.int .u32 (sf1 : Int), .slice At sf2 ct])
    clear hb
    clear c0_0 c0_1 f0_0 f0_1 c1_0 c1_1 c1_2 c1_3 c1_4 c1_5 c1_6 c1_7 c1_8 c1_9 c1_10 f1_0 f1_1 f1_2 f1_3 f1_4 f1_5 f1_6 f1_7 f1_8 f1_9 f1_10 c2_0 c2_1 f2_0 f2_1 c3_0 c3_1 c3_2 c3_3 c3_4 c3_5 f3_0 f3_1 f3_2 f3_3 f3_4 f3_5 c4_0 c4_1 c4_2 c4_3 c4_4 c4_5 f4_0 f4_1 f4_2 f4_3 f4_4 f4_5 c5_0 c5_1 c5_2 c5_3 c5_4 c5_5 f5_0 f5_1 f5_2 f5_3 f5_4 f5_5 c6_0 c6_1 c6_2 c6_3 c6_4 c6_5 f6_0 f6_1 f6_2 f6_3 f6_4 f6_5 c7_0 c7_1 f7_0 f7_1
    obtain ⟨c0_0, c0_1⟩ := LF_8.out.cells2
    obtain ⟨f0_0, f0_1⟩ := LF_8.out.free2
    obtain ⟨c1_0, c1_1, c1_2, c1_3, c1_4, c1_5, c1_6, c1_7, c1_8, c1_9, c1_10⟩ := LN_8.out.cells11
    obtain ⟨f1_0, f1_1, f1_2, f1_3, f1_4, f1_5, f1_6, f1_7, f1_8, f1_9, f1_10⟩ := LN_8.out.free11
    obtain ⟨c2_0, c2_1⟩ := LN2_8.out.cells2
    obtain ⟨f2_0, f2_1⟩ := LN2_8.out.free2
    obtain ⟨c3_0, c3_1, c3_2, c3_3, c3_4, c3_5⟩ := LN3_8.out.cells6
    obtain ⟨f3_0, f3_1, f3_2, f3_3, f3_4, f3_5⟩ := LN3_8.out.free6
    obtain ⟨c4_0, c4_1, c4_2, c4_3, c4_4, c4_5⟩ := LN4_8.out.cells6
    obtain ⟨f4_0, f4_1, f4_2, f4_3, f4_4, f4_5⟩ := LN4_8.out.free6
    obtain ⟨c5_0, c5_1, c5_2, c5_3, c5_4, c5_5⟩ := LN5_8.out.cells6
    obtain ⟨f5_0, f5_1, f5_2, f5_3, f5_4, f5_5⟩ := LN5_8.out.free6
    obtain ⟨c6_0, c6_1, c6_2, c6_3, c6_4, c6_5⟩ := LN6_8.out.cells6
    obtain ⟨f6_0, f6_1, f6_2, f6_3, f6_4, f6_5⟩ := LN6_8.out.free6
    obtain ⟨c7_0, c7_1⟩ := LN7_8.out.cells2
    obtain ⟨f7_0, f7_1⟩ := LN7_8.out.free2
    obtain ⟨c8_0, c8_1⟩ := LN8_8.out.cells2
    obtain ⟨f8_0, f8_1⟩ := LN8_8.out.free2
    have HFt8 := Lib.hid (HFt.out.below (below1 w8 (.cells #[.int .u32 (sf1 : Int), .slice At sf2 ct] 25)))
    clear c0_0 c0_1 f0_0 f0_1 c1_0 c1_1 c1_2 c1_3 c1_4 c1_5 c1_6 c1_7 c1_8 c1_9 c1_10 f1_0 f1_1 f1_2 f1_3 f1_4 f1_5 f1_6 f1_7 f1_8 f1_9 f1_10 c2_0 c2_1 f2_0 f2_1 c3_0 c3_1 c3_2 c3_3 c3_4 c3_5 f3_0 f3_1 f3_2 f3_3 f3_4 f3_5 c4_0 c4_1 c4_2 c4_3 c4_4 c4_5 f4_0 f4_1 f4_2 f4_3 f4_4 f4_5 c5_0 c5_1 c5_2 c5_3 c5_4 c5_5 f5_0 f5_1 f5_2 f5_3 f5_4 f5_5 c6_0 c6_1 c6_2 c6_3 c6_4 c6_5 f6_0 f6_1 f6_2 f6_3 f6_4 f6_5 c7_0 c7_1 f7_0 f7_1 c8_0 c8_1 f8_0 f8_1
    skip
    have Z0 := Lib.hid (Below.refl (w8.alloc (.cells #[.int .u32 (sf1 : Int), .slice At sf2 ct] 25)).heap.size (w8.alloc (.cells #[.int .u32 (sf1 : Int), .slice At sf2 ct] 25)))
    have KTb : Hid (KT (w8.alloc (.cells #[.int .u32 (sf1 : Int), .slice At sf2 ct] 25)) ⟨an2, .slice bA an2.a.length bd, .slice bB an2.r.length be⟩) := Lib.hid ⟨HOb3_8.out.2.1.reads, HOb3_8.out.2.2.reads, HKd4_8.out.o, HKd4_8.out.s, HKd4_8.out.c⟩
    have KTk : Hid (KT (w8.alloc (.cells #[.int .u32 (sf1 : Int), .slice At sf2 ct] 25)) ⟨fk, .slice kA fk.a.length kd, .slice kB fk.r.length ke⟩) := Lib.hid ⟨HOk5_8.out.2.1.reads, HOk5_8.out.2.2.reads, HKv6_8.out.o, HKv6_8.out.s, HKv6_8.out.c⟩
    have CS1 := Lib.hid (fun W (hb : Below (w8.alloc (.cells #[.int .u32 (sf1 : Int), .slice At sf2 ct] 25)).heap.size (w8.alloc (.cells #[.int .u32 (sf1 : Int), .slice At sf2 ct] 25)) W) => CSK.out ⟨an2, .slice bA an2.a.length bd, .slice bB an2.r.length be⟩ ⟨an2, .slice dA an2.a.length dd, .slice dB an2.r.length de⟩ W (KTb.out.below hb) (HKd4_8.out.below hb))
    have CS2 := Lib.hid (fun W (hb : Below (w8.alloc (.cells #[.int .u32 (sf1 : Int), .slice At sf2 ct] 25)).heap.size (w8.alloc (.cells #[.int .u32 (sf1 : Int), .slice At sf2 ct] 25)) W) => CSK.out ⟨fk, .slice kA fk.a.length kd, .slice kB fk.r.length ke⟩ ⟨fk, .slice vA fk.a.length vd, .slice vB fk.r.length ve⟩ W (KTk.out.below hb) (HKv6_8.out.below hb))
    dsimp only at CS1 CS2
    rw [sameK_self] at CS1 CS2
    have CS3 := Lib.hid (fun W (hb : Below (w8.alloc (.cells #[.int .u32 (sf1 : Int), .slice At sf2 ct] 25)).heap.size (w8.alloc (.cells #[.int .u32 (sf1 : Int), .slice At sf2 ct] 25)) W) => CSF.out sf1 As At sf2 cs ct sf3 W (HFs7_8.out.below hb) (HFt8.out.below hb))
    have CS4 := Lib.hid (fun W (hb : Below (w8.alloc (.cells #[.int .u32 (sf1 : Int), .slice At sf2 ct] 25)).heap.size (w8.alloc (.cells #[.int .u32 (sf1 : Int), .slice At sf2 ct] 25)) W) => CCh.out W Ax cx (HX2_8.out.below hb))
    have CS5 := Lib.hid (fun W (hb : Below (w8.alloc (.cells #[.int .u32 (sf1 : Int), .slice At sf2 ct] 25)).heap.size (w8.alloc (.cells #[.int .u32 (sf1 : Int), .slice At sf2 ct] 25)) W) => CRC.out W (HF_8.out.below hb))
    have t1 : ((an1 : Int) != (an1 : Int)) = false := by simp
    have t2 : ((an3 : Int) != (an3 : Int)) = false := by simp
    have t3 : (fb != fb) = false := by simp
    have t4 : ((se : Int) != (se : Int)) = false := by simp
    have t5 : ((ck : Int) != (ck : Int)) = false := by simp
    obtain ⟨c0_0, c0_1⟩ := LF_8.out.cells2
    obtain ⟨f0_0, f0_1⟩ := LF_8.out.free2
    obtain ⟨c1_0, c1_1, c1_2, c1_3, c1_4, c1_5, c1_6, c1_7, c1_8, c1_9, c1_10⟩ := LN_8.out.cells11
    obtain ⟨f1_0, f1_1, f1_2, f1_3, f1_4, f1_5, f1_6, f1_7, f1_8, f1_9, f1_10⟩ := LN_8.out.free11
    obtain ⟨c2_0, c2_1⟩ := LN2_8.out.cells2
    obtain ⟨f2_0, f2_1⟩ := LN2_8.out.free2
    obtain ⟨c3_0, c3_1, c3_2, c3_3, c3_4, c3_5⟩ := LN3_8.out.cells6
    obtain ⟨f3_0, f3_1, f3_2, f3_3, f3_4, f3_5⟩ := LN3_8.out.free6
    obtain ⟨c4_0, c4_1, c4_2, c4_3, c4_4, c4_5⟩ := LN4_8.out.cells6
    obtain ⟨f4_0, f4_1, f4_2, f4_3, f4_4, f4_5⟩ := LN4_8.out.free6
    obtain ⟨c5_0, c5_1, c5_2, c5_3, c5_4, c5_5⟩ := LN5_8.out.cells6
    obtain ⟨f5_0, f5_1, f5_2, f5_3, f5_4, f5_5⟩ := LN5_8.out.free6
    obtain ⟨c6_0, c6_1, c6_2, c6_3, c6_4, c6_5⟩ := LN6_8.out.cells6
    obtain ⟨f6_0, f6_1, f6_2, f6_3, f6_4, f6_5⟩ := LN6_8.out.free6
    obtain ⟨c7_0, c7_1⟩ := LN7_8.out.cells2
    obtain ⟨f7_0, f7_1⟩ := LN7_8.out.free2
    obtain ⟨c8_0, c8_1⟩ := LN8_8.out.cells2
    obtain ⟨f8_0, f8_1⟩ := LN8_8.out.free2
    go_wp2_with fail
    clear c0_0 c0_1 f0_0 f0_1 c1_0 c1_1 c1_2 c1_3 c1_4 c1_5 c1_6 c1_7 c1_8 c1_9 c1_10 f1_0 f1_1 f1_2 f1_3 f1_4 f1_5 f1_6 f1_7 f1_8 f1_9 f1_10 c2_0 c2_1 f2_0 f2_1 c3_0 c3_1 c3_2 c3_3 c3_4 c3_5 f3_0 f3_1 f3_2 f3_3 f3_4 f3_5 c4_0 c4_1 c4_2 c4_3 c4_4 c4_5 f4_0 f4_1 f4_2 f4_3 f4_4 f4_5 c5_0 c5_1 c5_2 c5_3 c5_4 c5_5 f5_0 f5_1 f5_2 f5_3 f5_4 f5_5 c6_0 c6_1 c6_2 c6_3 c6_4 c6_5 f6_0 f6_1 f6_2 f6_3 f6_4 f6_5 c7_0 c7_1 f7_0 f7_1 c8_0 c8_1 f8_0 f8_1
    refine wp_region_noPanic ?_
    refine wp_region_held_drew (S := fun W => Lies W w3.heap.size 34 #[.int .u32 (an2.o : Int), .int .i64 an2.s, .bool an2.u, .slice bA an2.a.length bd, .int .i64 an2.c, .slice bB an2.r.length be] ∧ Lies W w4.heap.size 34 #[.int .u32 (an2.o : Int), .int .i64 an2.s, .bool an2.u, .slice dA an2.a.length dd, .int .i64 an2.c, .slice dB an2.r.length de] ∧ Lies W w5.heap.size 34 #[.int .u32 (fk.o : Int), .int .i64 fk.s, .bool fk.u, .slice kA fk.a.length kd, .int .i64 fk.c, .slice kB fk.r.length ke] ∧ Lies W w6.heap.size 34 #[.int .u32 (fk.o : Int), .int .i64 fk.s, .bool fk.u, .slice vA fk.a.length vd, .int .i64 fk.c, .slice vB fk.r.length ve] ∧ Lies W w7.heap.size 25 #[.int .u32 (sf1 : Int), .slice As sf2 cs] ∧ Lies W w8.heap.size 25 #[.int .u32 (sf1 : Int), .slice At sf2 ct] ∧ Lies W w2.heap.size 25 #[.int .u32 (ep : Int), .slice Ax n cx] ∧ Lies W w.heap.size 25 #[.int .u32 (ep : Int), .slice A n c]) (by kernel_rfl) ⟨LN3_8.out, LN4_8.out, LN5_8.out, LN6_8.out, LN7_8.out, LN8_8.out, LN2_8.out, LF_8.out⟩ (fun hH0 => ?_)
    refine any_take 0 77 ?vk1x0 rfl rfl (by kernel_rfl) (by kernel_rfl) (by kernel_rfl) (fun _ _ _ h => h) (by rfl) ?hyk1x0 hH0 ?restk1x0
    case hyk1x0 => ((intro W hSw); obtain ⟨o0_0, o0_1, o0_2, o0_3, o0_4, o0_5⟩ := Lies.cells6 hSw.1; obtain ⟨o1_0, o1_1, o1_2, o1_3, o1_4, o1_5⟩ := Lies.cells6 hSw.2.1; obtain ⟨o2_0, o2_1, o2_2, o2_3, o2_4, o2_5⟩ := Lies.cells6 hSw.2.2.1; obtain ⟨o3_0, o3_1, o3_2, o3_3, o3_4, o3_5⟩ := Lies.cells6 hSw.2.2.2.1; obtain ⟨o4_0, o4_1⟩ := Lies.cells2 hSw.2.2.2.2.1; obtain ⟨o5_0, o5_1⟩ := Lies.cells2 hSw.2.2.2.2.2.1; obtain ⟨o6_0, o6_1⟩ := Lies.cells2 hSw.2.2.2.2.2.2.1; obtain ⟨o7_0, o7_1⟩ := Lies.cells2 hSw.2.2.2.2.2.2.2; go_simp; (try with_reducible rfl))
    try simp only [Act.put, List.setIfInBounds_toArray, List.set_cons_zero, List.set_cons_succ]
    refine any_take 1 78 ?vk1x1 rfl rfl (by kernel_rfl) (by kernel_rfl) (by kernel_rfl) (fun _ _ _ h => h) (by rfl) ?hyk1x1 hH0 ?restk1x1
    case hyk1x1 => ((intro W hSw); obtain ⟨o0_0, o0_1, o0_2, o0_3, o0_4, o0_5⟩ := Lies.cells6 hSw.1; obtain ⟨o1_0, o1_1, o1_2, o1_3, o1_4, o1_5⟩ := Lies.cells6 hSw.2.1; obtain ⟨o2_0, o2_1, o2_2, o2_3, o2_4, o2_5⟩ := Lies.cells6 hSw.2.2.1; obtain ⟨o3_0, o3_1, o3_2, o3_3, o3_4, o3_5⟩ := Lies.cells6 hSw.2.2.2.1; obtain ⟨o4_0, o4_1⟩ := Lies.cells2 hSw.2.2.2.2.1; obtain ⟨o5_0, o5_1⟩ := Lies.cells2 hSw.2.2.2.2.2.1; obtain ⟨o6_0, o6_1⟩ := Lies.cells2 hSw.2.2.2.2.2.2.1; obtain ⟨o7_0, o7_1⟩ := Lies.cells2 hSw.2.2.2.2.2.2.2; go_simp; (try with_reducible rfl))
    try simp only [Act.put, List.setIfInBounds_toArray, List.set_cons_zero, List.set_cons_succ]
    refine any_take 2 79 ?vk1x2 rfl rfl (by kernel_rfl) (by kernel_rfl) (by kernel_rfl) (fun _ _ _ h => h) (by rfl) ?hyk1x2 hH0 ?restk1x2
    case hyk1x2 => ((intro W hSw); obtain ⟨o0_0, o0_1, o0_2, o0_3, o0_4, o0_5⟩ := Lies.cells6 hSw.1; obtain ⟨o1_0, o1_1, o1_2, o1_3, o1_4, o1_5⟩ := Lies.cells6 hSw.2.1; obtain ⟨o2_0, o2_1, o2_2, o2_3, o2_4, o2_5⟩ := Lies.cells6 hSw.2.2.1; obtain ⟨o3_0, o3_1, o3_2, o3_3, o3_4, o3_5⟩ := Lies.cells6 hSw.2.2.2.1; obtain ⟨o4_0, o4_1⟩ := Lies.cells2 hSw.2.2.2.2.1; obtain ⟨o5_0, o5_1⟩ := Lies.cells2 hSw.2.2.2.2.2.1; obtain ⟨o6_0, o6_1⟩ := Lies.cells2 hSw.2.2.2.2.2.2.1; obtain ⟨o7_0, o7_1⟩ := Lies.cells2 hSw.2.2.2.2.2.2.2; go_simp; (try with_reducible rfl))
    try simp only [Act.put, List.setIfInBounds_toArray, List.set_cons_zero, List.set_cons_succ]
    refine any_take 3 80 ?vk1x3 rfl rfl (by kernel_rfl) (by kernel_rfl) (by kernel_rfl) (fun _ _ _ h => h) (by rfl) ?hyk1x3 hH0 ?restk1x3
    case hyk1x3 => ((intro W hSw); obtain ⟨o0_0, o0_1, o0_2, o0_3, o0_4, o0_5⟩ := Lies.cells6 hSw.1; obtain ⟨o1_0, o1_1, o1_2, o1_3, o1_4, o1_5⟩ := Lies.cells6 hSw.2.1; obtain ⟨o2_0, o2_1, o2_2, o2_3, o2_4, o2_5⟩ := Lies.cells6 hSw.2.2.1; obtain ⟨o3_0, o3_1, o3_2, o3_3, o3_4, o3_5⟩ := Lies.cells6 hSw.2.2.2.1; obtain ⟨o4_0, o4_1⟩ := Lies.cells2 hSw.2.2.2.2.1; obtain ⟨o5_0, o5_1⟩ := Lies.cells2 hSw.2.2.2.2.2.1; obtain ⟨o6_0, o6_1⟩ := Lies.cells2 hSw.2.2.2.2.2.2.1; obtain ⟨o7_0, o7_1⟩ := Lies.cells2 hSw.2.2.2.2.2.2.2; go_simp; (try with_reducible rfl))
    try simp only [Act.put, List.setIfInBounds_toArray, List.set_cons_zero, List.set_cons_succ]
    refine any_take 4 81 ?vk1x4 rfl rfl (by kernel_rfl) (by kernel_rfl) (by kernel_rfl) (fun _ _ _ h => h) (by rfl) ?hyk1x4 hH0 ?restk1x4
    case hyk1x4 => ((intro W hSw); obtain ⟨o0_0, o0_1, o0_2, o0_3, o0_4, o0_5⟩ := Lies.cells6 hSw.1; obtain ⟨o1_0, o1_1, o1_2, o1_3, o1_4, o1_5⟩ := Lies.cells6 hSw.2.1; obtain ⟨o2_0, o2_1, o2_2, o2_3, o2_4, o2_5⟩ := Lies.cells6 hSw.2.2.1; obtain ⟨o3_0, o3_1, o3_2, o3_3, o3_4, o3_5⟩ := Lies.cells6 hSw.2.2.2.1; obtain ⟨o4_0, o4_1⟩ := Lies.cells2 hSw.2.2.2.2.1; obtain ⟨o5_0, o5_1⟩ := Lies.cells2 hSw.2.2.2.2.2.1; obtain ⟨o6_0, o6_1⟩ := Lies.cells2 hSw.2.2.2.2.2.2.1; obtain ⟨o7_0, o7_1⟩ := Lies.cells2 hSw.2.2.2.2.2.2.2; go_simp; (try with_reducible rfl))
    try simp only [Act.put, List.setIfInBounds_toArray, List.set_cons_zero, List.set_cons_succ]
    refine any_take 5 82 ?vk1x5 rfl rfl (by kernel_rfl) (by kernel_rfl) (by kernel_rfl) (fun _ _ _ h => h) (by rfl) ?hyk1x5 hH0 ?restk1x5
    case hyk1x5 => ((intro W hSw); obtain ⟨o0_0, o0_1, o0_2, o0_3, o0_4, o0_5⟩ := Lies.cells6 hSw.1; obtain ⟨o1_0, o1_1, o1_2, o1_3, o1_4, o1_5⟩ := Lies.cells6 hSw.2.1; obtain ⟨o2_0, o2_1, o2_2, o2_3, o2_4, o2_5⟩ := Lies.cells6 hSw.2.2.1; obtain ⟨o3_0, o3_1, o3_2, o3_3, o3_4, o3_5⟩ := Lies.cells6 hSw.2.2.2.1; obtain ⟨o4_0, o4_1⟩ := Lies.cells2 hSw.2.2.2.2.1; obtain ⟨o5_0, o5_1⟩ := Lies.cells2 hSw.2.2.2.2.2.1; obtain ⟨o6_0, o6_1⟩ := Lies.cells2 hSw.2.2.2.2.2.2.1; obtain ⟨o7_0, o7_1⟩ := Lies.cells2 hSw.2.2.2.2.2.2.2; go_simp; (try with_reducible rfl))
    try simp only [Act.put, List.setIfInBounds_toArray, List.set_cons_zero, List.set_cons_succ]
    refine wpAnyH_ready (rs := [6]) (by kernel_rfl) (by simp) ?_
    refine AllReadyH.cons rfl (fun K hK => ?_) AllReadyH.nil
    go_simp
    go_at_call 20
    with_reducible refine (CS1.out _ Z0.out.drew).mono ?_
    rintro x rw1 ⟨rfl, hb⟩
    have LN3_r1 := Lib.hid (Lies.below (w := (w8.alloc (.cells #[.int .u32 (sf1 : Int), .slice At sf2 ct] 25)).drew) LN3_8.out hb (Lies.lt LN3_8.out))
    have LN4_r1 := Lib.hid (Lies.below (w := (w8.alloc (.cells #[.int .u32 (sf1 : Int), .slice At sf2 ct] 25)).drew) LN4_8.out hb (Lies.lt LN4_8.out))
    have LN5_r1 := Lib.hid (Lies.below (w := (w8.alloc (.cells #[.int .u32 (sf1 : Int), .slice At sf2 ct] 25)).drew) LN5_8.out hb (Lies.lt LN5_8.out))
    have LN6_r1 := Lib.hid (Lies.below (w := (w8.alloc (.cells #[.int .u32 (sf1 : Int), .slice At sf2 ct] 25)).drew) LN6_8.out hb (Lies.lt LN6_8.out))
    have LN7_r1 := Lib.hid (Lies.below (w := (w8.alloc (.cells #[.int .u32 (sf1 : Int), .slice At sf2 ct] 25)).drew) LN7_8.out hb (Lies.lt LN7_8.out))
    have LN8_r1 := Lib.hid (Lies.below (w := (w8.alloc (.cells #[.int .u32 (sf1 : Int), .slice At sf2 ct] 25)).drew) LN8_8.out hb (Lies.lt LN8_8.out))
    have LN2_r1 := Lib.hid (Lies.below (w := (w8.alloc (.cells #[.int .u32 (sf1 : Int), .slice At sf2 ct] 25)).drew) LN2_8.out hb (Lies.lt LN2_8.out))
    have LF_r1 := Lib.hid (Lies.below (w := (w8.alloc (.cells #[.int .u32 (sf1 : Int), .slice At sf2 ct] 25)).drew) LF_8.out hb (Lies.lt LF_8.out))
    have Z0_r1 := Lib.hid (Z0.out.drew.trans (hb.mono Z0.out.size))
    refine hK.out _ _ (⟨LN3_r1.out, LN4_r1.out, LN5_r1.out, LN6_r1.out, LN7_r1.out, LN8_r1.out, LN2_r1.out, LF_r1.out⟩) (fun hH1 => ?_)
    clear hK K hH0 hb
    try simp only [Act.put, List.setIfInBounds_toArray, List.set_cons_zero, List.set_cons_succ]
    refine any_take 7 84 ?vk1x7 rfl rfl (by kernel_rfl) (by kernel_rfl) (by kernel_rfl) (fun _ _ _ h => h) (by rfl) ?hyk1x7 hH1 ?restk1x7
    case hyk1x7 => ((intro W hSw); obtain ⟨o0_0, o0_1, o0_2, o0_3, o0_4, o0_5⟩ := Lies.cells6 hSw.1; obtain ⟨o1_0, o1_1, o1_2, o1_3, o1_4, o1_5⟩ := Lies.cells6 hSw.2.1; obtain ⟨o2_0, o2_1, o2_2, o2_3, o2_4, o2_5⟩ := Lies.cells6 hSw.2.2.1; obtain ⟨o3_0, o3_1, o3_2, o3_3, o3_4, o3_5⟩ := Lies.cells6 hSw.2.2.2.1; obtain ⟨o4_0, o4_1⟩ := Lies.cells2 hSw.2.2.2.2.1; obtain ⟨o5_0, o5_1⟩ := Lies.cells2 hSw.2.2.2.2.2.1; obtain ⟨o6_0, o6_1⟩ := Lies.cells2 hSw.2.2.2.2.2.2.1; obtain ⟨o7_0, o7_1⟩ := Lies.cells2 hSw.2.2.2.2.2.2.2; go_simp; (try with_reducible rfl))
    try simp only [Act.put, List.setIfInBounds_toArray, List.set_cons_zero, List.set_cons_succ]
    refine any_take 8 85 ?vk1x8 rfl rfl (by kernel_rfl) (by kernel_rfl) (by kernel_rfl) (fun _ _ _ h => h) (by rfl) ?hyk1x8 hH1 ?restk1x8
    case hyk1x8 => ((intro W hSw); obtain ⟨o0_0, o0_1, o0_2, o0_3, o0_4, o0_5⟩ := Lies.cells6 hSw.1; obtain ⟨o1_0, o1_1, o1_2, o1_3, o1_4, o1_5⟩ := Lies.cells6 hSw.2.1; obtain ⟨o2_0, o2_1, o2_2, o2_3, o2_4, o2_5⟩ := Lies.cells6 hSw.2.2.1; obtain ⟨o3_0, o3_1, o3_2, o3_3, o3_4, o3_5⟩ := Lies.cells6 hSw.2.2.2.1; obtain ⟨o4_0, o4_1⟩ := Lies.cells2 hSw.2.2.2.2.1; obtain ⟨o5_0, o5_1⟩ := Lies.cells2 hSw.2.2.2.2.2.1; obtain ⟨o6_0, o6_1⟩ := Lies.cells2 hSw.2.2.2.2.2.2.1; obtain ⟨o7_0, o7_1⟩ := Lies.cells2 hSw.2.2.2.2.2.2.2; go_simp; (try with_reducible rfl))
    try simp only [Act.put, List.setIfInBounds_toArray, List.set_cons_zero, List.set_cons_succ]
    refine any_take 9 86 ?vk1x9 rfl rfl (by kernel_rfl) (by kernel_rfl) (by kernel_rfl) (fun _ _ _ h => h) (by rfl) ?hyk1x9 hH1 ?restk1x9
    case hyk1x9 => ((intro W hSw); obtain ⟨o0_0, o0_1, o0_2, o0_3, o0_4, o0_5⟩ := Lies.cells6 hSw.1; obtain ⟨o1_0, o1_1, o1_2, o1_3, o1_4, o1_5⟩ := Lies.cells6 hSw.2.1; obtain ⟨o2_0, o2_1, o2_2, o2_3, o2_4, o2_5⟩ := Lies.cells6 hSw.2.2.1; obtain ⟨o3_0, o3_1, o3_2, o3_3, o3_4, o3_5⟩ := Lies.cells6 hSw.2.2.2.1; obtain ⟨o4_0, o4_1⟩ := Lies.cells2 hSw.2.2.2.2.1; obtain ⟨o5_0, o5_1⟩ := Lies.cells2 hSw.2.2.2.2.2.1; obtain ⟨o6_0, o6_1⟩ := Lies.cells2 hSw.2.2.2.2.2.2.1; obtain ⟨o7_0, o7_1⟩ := Lies.cells2 hSw.2.2.2.2.2.2.2; go_simp; (try with_reducible rfl))
    try simp only [Act.put, List.setIfInBounds_toArray, List.set_cons_zero, List.set_cons_succ]
    refine any_take 10 87 ?vk1x10 rfl rfl (by kernel_rfl) (by kernel_rfl) (by kernel_rfl) (fun _ _ _ h => h) (by rfl) ?hyk1x10 hH1 ?restk1x10
    case hyk1x10 => ((intro W hSw); obtain ⟨o0_0, o0_1, o0_2, o0_3, o0_4, o0_5⟩ := Lies.cells6 hSw.1; obtain ⟨o1_0, o1_1, o1_2, o1_3, o1_4, o1_5⟩ := Lies.cells6 hSw.2.1; obtain ⟨o2_0, o2_1, o2_2, o2_3, o2_4, o2_5⟩ := Lies.cells6 hSw.2.2.1; obtain ⟨o3_0, o3_1, o3_2, o3_3, o3_4, o3_5⟩ := Lies.cells6 hSw.2.2.2.1; obtain ⟨o4_0, o4_1⟩ := Lies.cells2 hSw.2.2.2.2.1; obtain ⟨o5_0, o5_1⟩ := Lies.cells2 hSw.2.2.2.2.2.1; obtain ⟨o6_0, o6_1⟩ := Lies.cells2 hSw.2.2.2.2.2.2.1; obtain ⟨o7_0, o7_1⟩ := Lies.cells2 hSw.2.2.2.2.2.2.2; go_simp; (try with_reducible rfl))
    try simp only [Act.put, List.setIfInBounds_toArray, List.set_cons_zero, List.set_cons_succ]
    refine any_take 11 88 ?vk1x11 rfl rfl (by kernel_rfl) (by kernel_rfl) (by kernel_rfl) (fun _ _ _ h => h) (by rfl) ?hyk1x11 hH1 ?restk1x11
    case hyk1x11 => ((intro W hSw); obtain ⟨o0_0, o0_1, o0_2, o0_3, o0_4, o0_5⟩ := Lies.cells6 hSw.1; obtain ⟨o1_0, o1_1, o1_2, o1_3, o1_4, o1_5⟩ := Lies.cells6 hSw.2.1; obtain ⟨o2_0, o2_1, o2_2, o2_3, o2_4, o2_5⟩ := Lies.cells6 hSw.2.2.1; obtain ⟨o3_0, o3_1, o3_2, o3_3, o3_4, o3_5⟩ := Lies.cells6 hSw.2.2.2.1; obtain ⟨o4_0, o4_1⟩ := Lies.cells2 hSw.2.2.2.2.1; obtain ⟨o5_0, o5_1⟩ := Lies.cells2 hSw.2.2.2.2.2.1; obtain ⟨o6_0, o6_1⟩ := Lies.cells2 hSw.2.2.2.2.2.2.1; obtain ⟨o7_0, o7_1⟩ := Lies.cells2 hSw.2.2.2.2.2.2.2; go_simp; (try with_reducible rfl))
    try simp only [Act.put, List.setIfInBounds_toArray, List.set_cons_zero, List.set_cons_succ]
    refine any_take 12 89 ?vk1x12 rfl rfl (by kernel_rfl) (by kernel_rfl) (by kernel_rfl) (fun _ _ _ h => h) (by rfl) ?hyk1x12 hH1 ?restk1x12
    case hyk1x12 => ((intro W hSw); obtain ⟨o0_0, o0_1, o0_2, o0_3, o0_4, o0_5⟩ := Lies.cells6 hSw.1; obtain ⟨o1_0, o1_1, o1_2, o1_3, o1_4, o1_5⟩ := Lies.cells6 hSw.2.1; obtain ⟨o2_0, o2_1, o2_2, o2_3, o2_4, o2_5⟩ := Lies.cells6 hSw.2.2.1; obtain ⟨o3_0, o3_1, o3_2, o3_3, o3_4, o3_5⟩ := Lies.cells6 hSw.2.2.2.1; obtain ⟨o4_0, o4_1⟩ := Lies.cells2 hSw.2.2.2.2.1; obtain ⟨o5_0, o5_1⟩ := Lies.cells2 hSw.2.2.2.2.2.1; obtain ⟨o6_0, o6_1⟩ := Lies.cells2 hSw.2.2.2.2.2.2.1; obtain ⟨o7_0, o7_1⟩ := Lies.cells2 hSw.2.2.2.2.2.2.2; go_simp; (try with_reducible rfl))
    try simp only [Act.put, List.setIfInBounds_toArray, List.set_cons_zero, List.set_cons_succ]
    refine any_take 13 90 ?vk1x13 rfl rfl (by kernel_rfl) (by kernel_rfl) (by kernel_rfl) (fun _ _ _ h => h) (by rfl) ?hyk1x13 hH1 ?restk1x13
    case hyk1x13 => ((intro W hSw); obtain ⟨o0_0, o0_1, o0_2, o0_3, o0_4, o0_5⟩ := Lies.cells6 hSw.1; obtain ⟨o1_0, o1_1, o1_2, o1_3, o1_4, o1_5⟩ := Lies.cells6 hSw.2.1; obtain ⟨o2_0, o2_1, o2_2, o2_3, o2_4, o2_5⟩ := Lies.cells6 hSw.2.2.1; obtain ⟨o3_0, o3_1, o3_2, o3_3, o3_4, o3_5⟩ := Lies.cells6 hSw.2.2.2.1; obtain ⟨o4_0, o4_1⟩ := Lies.cells2 hSw.2.2.2.2.1; obtain ⟨o5_0, o5_1⟩ := Lies.cells2 hSw.2.2.2.2.2.1; obtain ⟨o6_0, o6_1⟩ := Lies.cells2 hSw.2.2.2.2.2.2.1; obtain ⟨o7_0, o7_1⟩ := Lies.cells2 hSw.2.2.2.2.2.2.2; go_simp; (try with_reducible rfl))
    try simp only [Act.put, List.setIfInBounds_toArray, List.set_cons_zero, List.set_cons_succ]
    refine any_take 14 91 ?vk1x14 rfl rfl (by kernel_rfl) (by kernel_rfl) (by kernel_rfl) (fun _ _ _ h => h) (by rfl) ?hyk1x14 hH1 ?restk1x14
    case hyk1x14 => ((intro W hSw); obtain ⟨o0_0, o0_1, o0_2, o0_3, o0_4, o0_5⟩ := Lies.cells6 hSw.1; obtain ⟨o1_0, o1_1, o1_2, o1_3, o1_4, o1_5⟩ := Lies.cells6 hSw.2.1; obtain ⟨o2_0, o2_1, o2_2, o2_3, o2_4, o2_5⟩ := Lies.cells6 hSw.2.2.1; obtain ⟨o3_0, o3_1, o3_2, o3_3, o3_4, o3_5⟩ := Lies.cells6 hSw.2.2.2.1; obtain ⟨o4_0, o4_1⟩ := Lies.cells2 hSw.2.2.2.2.1; obtain ⟨o5_0, o5_1⟩ := Lies.cells2 hSw.2.2.2.2.2.1; obtain ⟨o6_0, o6_1⟩ := Lies.cells2 hSw.2.2.2.2.2.2.1; obtain ⟨o7_0, o7_1⟩ := Lies.cells2 hSw.2.2.2.2.2.2.2; go_simp; (try with_reducible rfl))
    try simp only [Act.put, List.setIfInBounds_toArray, List.set_cons_zero, List.set_cons_succ]
    refine any_take 15 92 ?vk1x15 rfl rfl (by kernel_rfl) (by kernel_rfl) (by kernel_rfl) (fun _ _ _ h => h) (by rfl) ?hyk1x15 hH1 ?restk1x15
    case hyk1x15 => ((intro W hSw); obtain ⟨o0_0, o0_1, o0_2, o0_3, o0_4, o0_5⟩ := Lies.cells6 hSw.1; obtain ⟨o1_0, o1_1, o1_2, o1_3, o1_4, o1_5⟩ := Lies.cells6 hSw.2.1; obtain ⟨o2_0, o2_1, o2_2, o2_3, o2_4, o2_5⟩ := Lies.cells6 hSw.2.2.1; obtain ⟨o3_0, o3_1, o3_2, o3_3, o3_4, o3_5⟩ := Lies.cells6 hSw.2.2.2.1; obtain ⟨o4_0, o4_1⟩ := Lies.cells2 hSw.2.2.2.2.1; obtain ⟨o5_0, o5_1⟩ := Lies.cells2 hSw.2.2.2.2.2.1; obtain ⟨o6_0, o6_1⟩ := Lies.cells2 hSw.2.2.2.2.2.2.1; obtain ⟨o7_0, o7_1⟩ := Lies.cells2 hSw.2.2.2.2.2.2.2; go_simp; (try with_reducible rfl))
    try simp only [Act.put, List.setIfInBounds_toArray, List.set_cons_zero, List.set_cons_succ]
    refine any_take 16 93 ?vk1x16 rfl rfl (by kernel_rfl) (by kernel_rfl) (by kernel_rfl) (fun _ _ _ h => h) (by rfl) ?hyk1x16 hH1 ?restk1x16
    case hyk1x16 => ((intro W hSw); obtain ⟨o0_0, o0_1, o0_2, o0_3, o0_4, o0_5⟩ := Lies.cells6 hSw.1; obtain ⟨o1_0, o1_1, o1_2, o1_3, o1_4, o1_5⟩ := Lies.cells6 hSw.2.1; obtain ⟨o2_0, o2_1, o2_2, o2_3, o2_4, o2_5⟩ := Lies.cells6 hSw.2.2.1; obtain ⟨o3_0, o3_1, o3_2, o3_3, o3_4, o3_5⟩ := Lies.cells6 hSw.2.2.2.1; obtain ⟨o4_0, o4_1⟩ := Lies.cells2 hSw.2.2.2.2.1; obtain ⟨o5_0, o5_1⟩ := Lies.cells2 hSw.2.2.2.2.2.1; obtain ⟨o6_0, o6_1⟩ := Lies.cells2 hSw.2.2.2.2.2.2.1; obtain ⟨o7_0, o7_1⟩ := Lies.cells2 hSw.2.2.2.2.2.2.2; go_simp; (try with_reducible rfl))
    try simp only [Act.put, List.setIfInBounds_toArray, List.set_cons_zero, List.set_cons_succ]
    refine wpAnyH_ready (rs := [17]) (by kernel_rfl) (by simp) ?_
    refine AllReadyH.cons rfl (fun K hK => ?_) AllReadyH.nil
    go_simp
    go_at_call 20
    with_reducible refine (CS2.out _ Z0_r1.out).mono ?_
    rintro x rw2 ⟨rfl, hb⟩
    have LN3_r2 := Lib.hid (Lies.below (w := rw1) LN3_r1.out hb (Lies.lt LN3_r1.out))
    have LN4_r2 := Lib.hid (Lies.below (w := rw1) LN4_r1.out hb (Lies.lt LN4_r1.out))
    have LN5_r2 := Lib.hid (Lies.below (w := rw1) LN5_r1.out hb (Lies.lt LN5_r1.out))
    have LN6_r2 := Lib.hid (Lies.below (w := rw1) LN6_r1.out hb (Lies.lt LN6_r1.out))
    have LN7_r2 := Lib.hid (Lies.below (w := rw1) LN7_r1.out hb (Lies.lt LN7_r1.out))
    have LN8_r2 := Lib.hid (Lies.below (w := rw1) LN8_r1.out hb (Lies.lt LN8_r1.out))
    have LN2_r2 := Lib.hid (Lies.below (w := rw1) LN2_r1.out hb (Lies.lt LN2_r1.out))
    have LF_r2 := Lib.hid (Lies.below (w := rw1) LF_r1.out hb (Lies.lt LF_r1.out))
    have Z0_r2 := Lib.hid (Z0_r1.out.trans (hb.mono Z0_r1.out.size))
    refine hK.out _ _ (⟨LN3_r2.out, LN4_r2.out, LN5_r2.out, LN6_r2.out, LN7_r2.out, LN8_r2.out, LN2_r2.out, LF_r2.out⟩) (fun hH2 => ?_)
    clear hK K hH1 hb
    try simp only [Act.put, List.setIfInBounds_toArray, List.set_cons_zero, List.set_cons_succ]
    refine any_take 18 95 ?vk1x18 rfl rfl (by kernel_rfl) (by kernel_rfl) (by kernel_rfl) (fun _ _ _ h => h) (by rfl) ?hyk1x18 hH2 ?restk1x18
    case hyk1x18 => ((intro W hSw); obtain ⟨o0_0, o0_1, o0_2, o0_3, o0_4, o0_5⟩ := Lies.cells6 hSw.1; obtain ⟨o1_0, o1_1, o1_2, o1_3, o1_4, o1_5⟩ := Lies.cells6 hSw.2.1; obtain ⟨o2_0, o2_1, o2_2, o2_3, o2_4, o2_5⟩ := Lies.cells6 hSw.2.2.1; obtain ⟨o3_0, o3_1, o3_2, o3_3, o3_4, o3_5⟩ := Lies.cells6 hSw.2.2.2.1; obtain ⟨o4_0, o4_1⟩ := Lies.cells2 hSw.2.2.2.2.1; obtain ⟨o5_0, o5_1⟩ := Lies.cells2 hSw.2.2.2.2.2.1; obtain ⟨o6_0, o6_1⟩ := Lies.cells2 hSw.2.2.2.2.2.2.1; obtain ⟨o7_0, o7_1⟩ := Lies.cells2 hSw.2.2.2.2.2.2.2; go_simp; (try with_reducible rfl))
    try simp only [Act.put, List.setIfInBounds_toArray, List.set_cons_zero, List.set_cons_succ]
    refine any_take 19 96 ?vk1x19 rfl rfl (by kernel_rfl) (by kernel_rfl) (by kernel_rfl) (fun _ _ _ h => h) (by rfl) ?hyk1x19 hH2 ?restk1x19
    case hyk1x19 => ((intro W hSw); obtain ⟨o0_0, o0_1, o0_2, o0_3, o0_4, o0_5⟩ := Lies.cells6 hSw.1; obtain ⟨o1_0, o1_1, o1_2, o1_3, o1_4, o1_5⟩ := Lies.cells6 hSw.2.1; obtain ⟨o2_0, o2_1, o2_2, o2_3, o2_4, o2_5⟩ := Lies.cells6 hSw.2.2.1; obtain ⟨o3_0, o3_1, o3_2, o3_3, o3_4, o3_5⟩ := Lies.cells6 hSw.2.2.2.1; obtain ⟨o4_0, o4_1⟩ := Lies.cells2 hSw.2.2.2.2.1; obtain ⟨o5_0, o5_1⟩ := Lies.cells2 hSw.2.2.2.2.2.1; obtain ⟨o6_0, o6_1⟩ := Lies.cells2 hSw.2.2.2.2.2.2.1; obtain ⟨o7_0, o7_1⟩ := Lies.cells2 hSw.2.2.2.2.2.2.2; go_simp; (try with_reducible rfl))
    try simp only [Act.put, List.setIfInBounds_toArray, List.set_cons_zero, List.set_cons_succ]
    refine any_take 20 97 ?vk1x20 rfl rfl (by kernel_rfl) (by kernel_rfl) (by kernel_rfl) (fun _ _ _ h => h) (by rfl) ?hyk1x20 hH2 ?restk1x20
    case hyk1x20 => ((intro W hSw); obtain ⟨o0_0, o0_1, o0_2, o0_3, o0_4, o0_5⟩ := Lies.cells6 hSw.1; obtain ⟨o1_0, o1_1, o1_2, o1_3, o1_4, o1_5⟩ := Lies.cells6 hSw.2.1; obtain ⟨o2_0, o2_1, o2_2, o2_3, o2_4, o2_5⟩ := Lies.cells6 hSw.2.2.1; obtain ⟨o3_0, o3_1, o3_2, o3_3, o3_4, o3_5⟩ := Lies.cells6 hSw.2.2.2.1; obtain ⟨o4_0, o4_1⟩ := Lies.cells2 hSw.2.2.2.2.1; obtain ⟨o5_0, o5_1⟩ := Lies.cells2 hSw.2.2.2.2.2.1; obtain ⟨o6_0, o6_1⟩ := Lies.cells2 hSw.2.2.2.2.2.2.1; obtain ⟨o7_0, o7_1⟩ := Lies.cells2 hSw.2.2.2.2.2.2.2; go_simp; (try with_reducible rfl))
    try simp only [Act.put, List.setIfInBounds_toArray, List.set_cons_zero, List.set_cons_succ]
    refine any_take 21 98 ?vk1x21 rfl rfl (by kernel_rfl) (by kernel_rfl) (by kernel_rfl) (fun _ _ _ h => h) (by rfl) ?hyk1x21 hH2 ?restk1x21
    case hyk1x21 => ((intro W hSw); obtain ⟨o0_0, o0_1, o0_2, o0_3, o0_4, o0_5⟩ := Lies.cells6 hSw.1; obtain ⟨o1_0, o1_1, o1_2, o1_3, o1_4, o1_5⟩ := Lies.cells6 hSw.2.1; obtain ⟨o2_0, o2_1, o2_2, o2_3, o2_4, o2_5⟩ := Lies.cells6 hSw.2.2.1; obtain ⟨o3_0, o3_1, o3_2, o3_3, o3_4, o3_5⟩ := Lies.cells6 hSw.2.2.2.1; obtain ⟨o4_0, o4_1⟩ := Lies.cells2 hSw.2.2.2.2.1; obtain ⟨o5_0, o5_1⟩ := Lies.cells2 hSw.2.2.2.2.2.1; obtain ⟨o6_0, o6_1⟩ := Lies.cells2 hSw.2.2.2.2.2.2.1; obtain ⟨o7_0, o7_1⟩ := Lies.cells2 hSw.2.2.2.2.2.2.2; go_simp; (try with_reducible rfl))
    try simp only [Act.put, List.setIfInBounds_toArray, List.set_cons_zero, List.set_cons_succ]
    refine any_take 22 99 ?vk1x22 rfl rfl (by kernel_rfl) (by kernel_rfl) (by kernel_rfl) (fun _ _ _ h => h) (by rfl) ?hyk1x22 hH2 ?restk1x22
    case hyk1x22 => ((intro W hSw); obtain ⟨o0_0, o0_1, o0_2, o0_3, o0_4, o0_5⟩ := Lies.cells6 hSw.1; obtain ⟨o1_0, o1_1, o1_2, o1_3, o1_4, o1_5⟩ := Lies.cells6 hSw.2.1; obtain ⟨o2_0, o2_1, o2_2, o2_3, o2_4, o2_5⟩ := Lies.cells6 hSw.2.2.1; obtain ⟨o3_0, o3_1, o3_2, o3_3, o3_4, o3_5⟩ := Lies.cells6 hSw.2.2.2.1; obtain ⟨o4_0, o4_1⟩ := Lies.cells2 hSw.2.2.2.2.1; obtain ⟨o5_0, o5_1⟩ := Lies.cells2 hSw.2.2.2.2.2.1; obtain ⟨o6_0, o6_1⟩ := Lies.cells2 hSw.2.2.2.2.2.2.1; obtain ⟨o7_0, o7_1⟩ := Lies.cells2 hSw.2.2.2.2.2.2.2; go_simp; (try with_reducible rfl))
    try simp only [Act.put, List.setIfInBounds_toArray, List.set_cons_zero, List.set_cons_succ]
    refine any_take 23 100 ?vk1x23 rfl rfl (by kernel_rfl) (by kernel_rfl) (by kernel_rfl) (fun _ _ _ h => h) (by rfl) ?hyk1x23 hH2 ?restk1x23
    case hyk1x23 => ((intro W hSw); obtain ⟨o0_0, o0_1, o0_2, o0_3, o0_4, o0_5⟩ := Lies.cells6 hSw.1; obtain ⟨o1_0, o1_1, o1_2, o1_3, o1_4, o1_5⟩ := Lies.cells6 hSw.2.1; obtain ⟨o2_0, o2_1, o2_2, o2_3, o2_4, o2_5⟩ := Lies.cells6 hSw.2.2.1; obtain ⟨o3_0, o3_1, o3_2, o3_3, o3_4, o3_5⟩ := Lies.cells6 hSw.2.2.2.1; obtain ⟨o4_0, o4_1⟩ := Lies.cells2 hSw.2.2.2.2.1; obtain ⟨o5_0, o5_1⟩ := Lies.cells2 hSw.2.2.2.2.2.1; obtain ⟨o6_0, o6_1⟩ := Lies.cells2 hSw.2.2.2.2.2.2.1; obtain ⟨o7_0, o7_1⟩ := Lies.cells2 hSw.2.2.2.2.2.2.2; go_simp; (try with_reducible rfl))
    try simp only [Act.put, List.setIfInBounds_toArray, List.set_cons_zero, List.set_cons_succ]
    refine any_take 24 101 ?vk1x24 rfl rfl (by kernel_rfl) (by kernel_rfl) (by kernel_rfl) (fun _ _ _ h => h) (by rfl) ?hyk1x24 hH2 ?restk1x24
    case hyk1x24 => ((intro W hSw); obtain ⟨o0_0, o0_1, o0_2, o0_3, o0_4, o0_5⟩ := Lies.cells6 hSw.1; obtain ⟨o1_0, o1_1, o1_2, o1_3, o1_4, o1_5⟩ := Lies.cells6 hSw.2.1; obtain ⟨o2_0, o2_1, o2_2, o2_3, o2_4, o2_5⟩ := Lies.cells6 hSw.2.2.1; obtain ⟨o3_0, o3_1, o3_2, o3_3, o3_4, o3_5⟩ := Lies.cells6 hSw.2.2.2.1; obtain ⟨o4_0, o4_1⟩ := Lies.cells2 hSw.2.2.2.2.1; obtain ⟨o5_0, o5_1⟩ := Lies.cells2 hSw.2.2.2.2.2.1; obtain ⟨o6_0, o6_1⟩ := Lies.cells2 hSw.2.2.2.2.2.2.1; obtain ⟨o7_0, o7_1⟩ := Lies.cells2 hSw.2.2.2.2.2.2.2; go_simp; (try with_reducible rfl))
    try simp only [Act.put, List.setIfInBounds_toArray, List.set_cons_zero, List.set_cons_succ]
    refine any_take 25 102 ?vk1x25 rfl rfl (by kernel_rfl) (by kernel_rfl) (by kernel_rfl) (fun _ _ _ h => h) (by rfl) ?hyk1x25 hH2 ?restk1x25
    case hyk1x25 => ((intro W hSw); obtain ⟨o0_0, o0_1, o0_2, o0_3, o0_4, o0_5⟩ := Lies.cells6 hSw.1; obtain ⟨o1_0, o1_1, o1_2, o1_3, o1_4, o1_5⟩ := Lies.cells6 hSw.2.1; obtain ⟨o2_0, o2_1, o2_2, o2_3, o2_4, o2_5⟩ := Lies.cells6 hSw.2.2.1; obtain ⟨o3_0, o3_1, o3_2, o3_3, o3_4, o3_5⟩ := Lies.cells6 hSw.2.2.2.1; obtain ⟨o4_0, o4_1⟩ := Lies.cells2 hSw.2.2.2.2.1; obtain ⟨o5_0, o5_1⟩ := Lies.cells2 hSw.2.2.2.2.2.1; obtain ⟨o6_0, o6_1⟩ := Lies.cells2 hSw.2.2.2.2.2.2.1; obtain ⟨o7_0, o7_1⟩ := Lies.cells2 hSw.2.2.2.2.2.2.2; go_simp; (try with_reducible rfl))
    try simp only [Act.put, List.setIfInBounds_toArray, List.set_cons_zero, List.set_cons_succ]
    refine any_take 26 103 ?vk1x26 rfl rfl (by kernel_rfl) (by kernel_rfl) (by kernel_rfl) (fun _ _ _ h => h) (by rfl) ?hyk1x26 hH2 ?restk1x26
    case hyk1x26 => ((intro W hSw); obtain ⟨o0_0, o0_1, o0_2, o0_3, o0_4, o0_5⟩ := Lies.cells6 hSw.1; obtain ⟨o1_0, o1_1, o1_2, o1_3, o1_4, o1_5⟩ := Lies.cells6 hSw.2.1; obtain ⟨o2_0, o2_1, o2_2, o2_3, o2_4, o2_5⟩ := Lies.cells6 hSw.2.2.1; obtain ⟨o3_0, o3_1, o3_2, o3_3, o3_4, o3_5⟩ := Lies.cells6 hSw.2.2.2.1; obtain ⟨o4_0, o4_1⟩ := Lies.cells2 hSw.2.2.2.2.1; obtain ⟨o5_0, o5_1⟩ := Lies.cells2 hSw.2.2.2.2.2.1; obtain ⟨o6_0, o6_1⟩ := Lies.cells2 hSw.2.2.2.2.2.2.1; obtain ⟨o7_0, o7_1⟩ := Lies.cells2 hSw.2.2.2.2.2.2.2; go_simp; (try with_reducible rfl))
    try simp only [Act.put, List.setIfInBounds_toArray, List.set_cons_zero, List.set_cons_succ]
    refine any_take 27 104 ?vk1x27 rfl rfl (by kernel_rfl) (by kernel_rfl) (by kernel_rfl) (fun _ _ _ h => h) (by rfl) ?hyk1x27 hH2 ?restk1x27
    case hyk1x27 => ((intro W hSw); obtain ⟨o0_0, o0_1, o0_2, o0_3, o0_4, o0_5⟩ := Lies.cells6 hSw.1; obtain ⟨o1_0, o1_1, o1_2, o1_3, o1_4, o1_5⟩ := Lies.cells6 hSw.2.1; obtain ⟨o2_0, o2_1, o2_2, o2_3, o2_4, o2_5⟩ := Lies.cells6 hSw.2.2.1; obtain ⟨o3_0, o3_1, o3_2, o3_3, o3_4, o3_5⟩ := Lies.cells6 hSw.2.2.2.1; obtain ⟨o4_0, o4_1⟩ := Lies.cells2 hSw.2.2.2.2.1; obtain ⟨o5_0, o5_1⟩ := Lies.cells2 hSw.2.2.2.2.2.1; obtain ⟨o6_0, o6_1⟩ := Lies.cells2 hSw.2.2.2.2.2.2.1; obtain ⟨o7_0, o7_1⟩ := Lies.cells2 hSw.2.2.2.2.2.2.2; go_simp; (try with_reducible rfl))
    try simp only [Act.put, List.setIfInBounds_toArray, List.set_cons_zero, List.set_cons_succ]
    refine wpAnyH_ready (rs := [28]) (by kernel_rfl) (by simp) ?_
    refine AllReadyH.cons rfl (fun K hK => ?_) AllReadyH.nil
    go_simp
    go_at_call 21
    with_reducible refine (CS3.out _ Z0_r2.out).mono ?_
    rintro x rw3 ⟨rfl, hb⟩
    have LN3_r3 := Lib.hid (Lies.below (w := rw2) LN3_r2.out hb (Lies.lt LN3_r2.out))
    have LN4_r3 := Lib.hid (Lies.below (w := rw2) LN4_r2.out hb (Lies.lt LN4_r2.out))
    have LN5_r3 := Lib.hid (Lies.below (w := rw2) LN5_r2.out hb (Lies.lt LN5_r2.out))
    have LN6_r3 := Lib.hid (Lies.below (w := rw2) LN6_r2.out hb (Lies.lt LN6_r2.out))
    have LN7_r3 := Lib.hid (Lies.below (w := rw2) LN7_r2.out hb (Lies.lt LN7_r2.out))
    have LN8_r3 := Lib.hid (Lies.below (w := rw2) LN8_r2.out hb (Lies.lt LN8_r2.out))
    have LN2_r3 := Lib.hid (Lies.below (w := rw2) LN2_r2.out hb (Lies.lt LN2_r2.out))
    have LF_r3 := Lib.hid (Lies.below (w := rw2) LF_r2.out hb (Lies.lt LF_r2.out))
    have Z0_r3 := Lib.hid (Z0_r2.out.trans (hb.mono Z0_r2.out.size))
    refine hK.out _ _ (⟨LN3_r3.out, LN4_r3.out, LN5_r3.out, LN6_r3.out, LN7_r3.out, LN8_r3.out, LN2_r3.out, LF_r3.out⟩) (fun hH3 => ?_)
    clear hK K hH2 hb
    try simp only [Act.put, List.setIfInBounds_toArray, List.set_cons_zero, List.set_cons_succ]
    refine any_take 29 106 ?vk1x29 rfl rfl (by kernel_rfl) (by kernel_rfl) (by kernel_rfl) (fun _ _ _ h => h) (by rfl) ?hyk1x29 hH3 ?restk1x29
    case hyk1x29 => ((intro W hSw); obtain ⟨o0_0, o0_1, o0_2, o0_3, o0_4, o0_5⟩ := Lies.cells6 hSw.1; obtain ⟨o1_0, o1_1, o1_2, o1_3, o1_4, o1_5⟩ := Lies.cells6 hSw.2.1; obtain ⟨o2_0, o2_1, o2_2, o2_3, o2_4, o2_5⟩ := Lies.cells6 hSw.2.2.1; obtain ⟨o3_0, o3_1, o3_2, o3_3, o3_4, o3_5⟩ := Lies.cells6 hSw.2.2.2.1; obtain ⟨o4_0, o4_1⟩ := Lies.cells2 hSw.2.2.2.2.1; obtain ⟨o5_0, o5_1⟩ := Lies.cells2 hSw.2.2.2.2.2.1; obtain ⟨o6_0, o6_1⟩ := Lies.cells2 hSw.2.2.2.2.2.2.1; obtain ⟨o7_0, o7_1⟩ := Lies.cells2 hSw.2.2.2.2.2.2.2; go_simp; (try with_reducible rfl))
    try simp only [Act.put, List.setIfInBounds_toArray, List.set_cons_zero, List.set_cons_succ]
    refine any_take 30 107 ?vk1x30 rfl rfl (by kernel_rfl) (by kernel_rfl) (by kernel_rfl) (fun _ _ _ h => h) (by rfl) ?hyk1x30 hH3 ?restk1x30
    case hyk1x30 => ((intro W hSw); obtain ⟨o0_0, o0_1, o0_2, o0_3, o0_4, o0_5⟩ := Lies.cells6 hSw.1; obtain ⟨o1_0, o1_1, o1_2, o1_3, o1_4, o1_5⟩ := Lies.cells6 hSw.2.1; obtain ⟨o2_0, o2_1, o2_2, o2_3, o2_4, o2_5⟩ := Lies.cells6 hSw.2.2.1; obtain ⟨o3_0, o3_1, o3_2, o3_3, o3_4, o3_5⟩ := Lies.cells6 hSw.2.2.2.1; obtain ⟨o4_0, o4_1⟩ := Lies.cells2 hSw.2.2.2.2.1; obtain ⟨o5_0, o5_1⟩ := Lies.cells2 hSw.2.2.2.2.2.1; obtain ⟨o6_0, o6_1⟩ := Lies.cells2 hSw.2.2.2.2.2.2.1; obtain ⟨o7_0, o7_1⟩ := Lies.cells2 hSw.2.2.2.2.2.2.2; go_simp; (try with_reducible rfl))
    try simp only [Act.put, List.setIfInBounds_toArray, List.set_cons_zero, List.set_cons_succ]
    refine any_take 31 108 ?vk1x31 rfl rfl (by kernel_rfl) (by kernel_rfl) (by kernel_rfl) (fun _ _ _ h => h) (by rfl) ?hyk1x31 hH3 ?restk1x31
    case hyk1x31 => ((intro W hSw); obtain ⟨o0_0, o0_1, o0_2, o0_3, o0_4, o0_5⟩ := Lies.cells6 hSw.1; obtain ⟨o1_0, o1_1, o1_2, o1_3, o1_4, o1_5⟩ := Lies.cells6 hSw.2.1; obtain ⟨o2_0, o2_1, o2_2, o2_3, o2_4, o2_5⟩ := Lies.cells6 hSw.2.2.1; obtain ⟨o3_0, o3_1, o3_2, o3_3, o3_4, o3_5⟩ := Lies.cells6 hSw.2.2.2.1; obtain ⟨o4_0, o4_1⟩ := Lies.cells2 hSw.2.2.2.2.1; obtain ⟨o5_0, o5_1⟩ := Lies.cells2 hSw.2.2.2.2.2.1; obtain ⟨o6_0, o6_1⟩ := Lies.cells2 hSw.2.2.2.2.2.2.1; obtain ⟨o7_0, o7_1⟩ := Lies.cells2 hSw.2.2.2.2.2.2.2; go_simp; (try with_reducible rfl))
    try simp only [Act.put, List.setIfInBounds_toArray, List.set_cons_zero, List.set_cons_succ]
    refine any_take 32 109 ?vk1x32 rfl rfl (by kernel_rfl) (by kernel_rfl) (by kernel_rfl) (fun _ _ _ h => h) (by rfl) ?hyk1x32 hH3 ?restk1x32
    case hyk1x32 => ((intro W hSw); obtain ⟨o0_0, o0_1, o0_2, o0_3, o0_4, o0_5⟩ := Lies.cells6 hSw.1; obtain ⟨o1_0, o1_1, o1_2, o1_3, o1_4, o1_5⟩ := Lies.cells6 hSw.2.1; obtain ⟨o2_0, o2_1, o2_2, o2_3, o2_4, o2_5⟩ := Lies.cells6 hSw.2.2.1; obtain ⟨o3_0, o3_1, o3_2, o3_3, o3_4, o3_5⟩ := Lies.cells6 hSw.2.2.2.1; obtain ⟨o4_0, o4_1⟩ := Lies.cells2 hSw.2.2.2.2.1; obtain ⟨o5_0, o5_1⟩ := Lies.cells2 hSw.2.2.2.2.2.1; obtain ⟨o6_0, o6_1⟩ := Lies.cells2 hSw.2.2.2.2.2.2.1; obtain ⟨o7_0, o7_1⟩ := Lies.cells2 hSw.2.2.2.2.2.2.2; go_simp; (try with_reducible rfl))
    try simp only [Act.put, List.setIfInBounds_toArray, List.set_cons_zero, List.set_cons_succ]
    refine any_take 33 110 ?vk1x33 rfl rfl (by kernel_rfl) (by kernel_rfl) (by kernel_rfl) (fun _ _ _ h => h) (by rfl) ?hyk1x33 hH3 ?restk1x33
    case hyk1x33 => ((intro W hSw); obtain ⟨o0_0, o0_1, o0_2, o0_3, o0_4, o0_5⟩ := Lies.cells6 hSw.1; obtain ⟨o1_0, o1_1, o1_2, o1_3, o1_4, o1_5⟩ := Lies.cells6 hSw.2.1; obtain ⟨o2_0, o2_1, o2_2, o2_3, o2_4, o2_5⟩ := Lies.cells6 hSw.2.2.1; obtain ⟨o3_0, o3_1, o3_2, o3_3, o3_4, o3_5⟩ := Lies.cells6 hSw.2.2.2.1; obtain ⟨o4_0, o4_1⟩ := Lies.cells2 hSw.2.2.2.2.1; obtain ⟨o5_0, o5_1⟩ := Lies.cells2 hSw.2.2.2.2.2.1; obtain ⟨o6_0, o6_1⟩ := Lies.cells2 hSw.2.2.2.2.2.2.1; obtain ⟨o7_0, o7_1⟩ := Lies.cells2 hSw.2.2.2.2.2.2.2; go_simp; (try with_reducible rfl))
    try simp only [Act.put, List.setIfInBounds_toArray, List.set_cons_zero, List.set_cons_succ]
    refine any_take 34 111 ?vk1x34 rfl rfl (by kernel_rfl) (by kernel_rfl) (by kernel_rfl) (fun _ _ _ h => h) (by rfl) ?hyk1x34 hH3 ?restk1x34
    case hyk1x34 => ((intro W hSw); obtain ⟨o0_0, o0_1, o0_2, o0_3, o0_4, o0_5⟩ := Lies.cells6 hSw.1; obtain ⟨o1_0, o1_1, o1_2, o1_3, o1_4, o1_5⟩ := Lies.cells6 hSw.2.1; obtain ⟨o2_0, o2_1, o2_2, o2_3, o2_4, o2_5⟩ := Lies.cells6 hSw.2.2.1; obtain ⟨o3_0, o3_1, o3_2, o3_3, o3_4, o3_5⟩ := Lies.cells6 hSw.2.2.2.1; obtain ⟨o4_0, o4_1⟩ := Lies.cells2 hSw.2.2.2.2.1; obtain ⟨o5_0, o5_1⟩ := Lies.cells2 hSw.2.2.2.2.2.1; obtain ⟨o6_0, o6_1⟩ := Lies.cells2 hSw.2.2.2.2.2.2.1; obtain ⟨o7_0, o7_1⟩ := Lies.cells2 hSw.2.2.2.2.2.2.2; go_simp; (try with_reducible rfl))
    try simp only [Act.put, List.setIfInBounds_toArray, List.set_cons_zero, List.set_cons_succ]
    refine any_take 35 112 ?vk1x35 rfl rfl (by kernel_rfl) (by kernel_rfl) (by kernel_rfl) (fun _ _ _ h => h) (by rfl) ?hyk1x35 hH3 ?restk1x35
    case hyk1x35 => ((intro W hSw); obtain ⟨o0_0, o0_1, o0_2, o0_3, o0_4, o0_5⟩ := Lies.cells6 hSw.1; obtain ⟨o1_0, o1_1, o1_2, o1_3, o1_4, o1_5⟩ := Lies.cells6 hSw.2.1; obtain ⟨o2_0, o2_1, o2_2, o2_3, o2_4, o2_5⟩ := Lies.cells6 hSw.2.2.1; obtain ⟨o3_0, o3_1, o3_2, o3_3, o3_4, o3_5⟩ := Lies.cells6 hSw.2.2.2.1; obtain ⟨o4_0, o4_1⟩ := Lies.cells2 hSw.2.2.2.2.1; obtain ⟨o5_0, o5_1⟩ := Lies.cells2 hSw.2.2.2.2.2.1; obtain ⟨o6_0, o6_1⟩ := Lies.cells2 hSw.2.2.2.2.2.2.1; obtain ⟨o7_0, o7_1⟩ := Lies.cells2 hSw.2.2.2.2.2.2.2; go_simp; (try with_reducible rfl))
    try simp only [Act.put, List.setIfInBounds_toArray, List.set_cons_zero, List.set_cons_succ]
    refine any_take 36 113 ?vk1x36 rfl rfl (by kernel_rfl) (by kernel_rfl) (by kernel_rfl) (fun _ _ _ h => h) (by rfl) ?hyk1x36 hH3 ?restk1x36
    case hyk1x36 => ((intro W hSw); obtain ⟨o0_0, o0_1, o0_2, o0_3, o0_4, o0_5⟩ := Lies.cells6 hSw.1; obtain ⟨o1_0, o1_1, o1_2, o1_3, o1_4, o1_5⟩ := Lies.cells6 hSw.2.1; obtain ⟨o2_0, o2_1, o2_2, o2_3, o2_4, o2_5⟩ := Lies.cells6 hSw.2.2.1; obtain ⟨o3_0, o3_1, o3_2, o3_3, o3_4, o3_5⟩ := Lies.cells6 hSw.2.2.2.1; obtain ⟨o4_0, o4_1⟩ := Lies.cells2 hSw.2.2.2.2.1; obtain ⟨o5_0, o5_1⟩ := Lies.cells2 hSw.2.2.2.2.2.1; obtain ⟨o6_0, o6_1⟩ := Lies.cells2 hSw.2.2.2.2.2.2.1; obtain ⟨o7_0, o7_1⟩ := Lies.cells2 hSw.2.2.2.2.2.2.2; go_simp; (try with_reducible rfl))
    try simp only [Act.put, List.setIfInBounds_toArray, List.set_cons_zero, List.set_cons_succ]
    refine any_take 37 114 ?vk1x37 rfl rfl (by kernel_rfl) (by kernel_rfl) (by kernel_rfl) (fun _ _ _ h => h) (by rfl) ?hyk1x37 hH3 ?restk1x37
    case hyk1x37 => ((intro W hSw); obtain ⟨o0_0, o0_1, o0_2, o0_3, o0_4, o0_5⟩ := Lies.cells6 hSw.1; obtain ⟨o1_0, o1_1, o1_2, o1_3, o1_4, o1_5⟩ := Lies.cells6 hSw.2.1; obtain ⟨o2_0, o2_1, o2_2, o2_3, o2_4, o2_5⟩ := Lies.cells6 hSw.2.2.1; obtain ⟨o3_0, o3_1, o3_2, o3_3, o3_4, o3_5⟩ := Lies.cells6 hSw.2.2.2.1; obtain ⟨o4_0, o4_1⟩ := Lies.cells2 hSw.2.2.2.2.1; obtain ⟨o5_0, o5_1⟩ := Lies.cells2 hSw.2.2.2.2.2.1; obtain ⟨o6_0, o6_1⟩ := Lies.cells2 hSw.2.2.2.2.2.2.1; obtain ⟨o7_0, o7_1⟩ := Lies.cells2 hSw.2.2.2.2.2.2.2; go_simp; (try with_reducible rfl))
    try simp only [Act.put, List.setIfInBounds_toArray, List.set_cons_zero, List.set_cons_succ]
    refine any_take 39 116 ?vk1x39 rfl rfl (by kernel_rfl) (by kernel_rfl) (by kernel_rfl) (fun _ _ _ h => h) (by rfl) ?hyk1x39 hH3 ?restk1x39
    case hyk1x39 => ((intro W hSw); obtain ⟨o0_0, o0_1, o0_2, o0_3, o0_4, o0_5⟩ := Lies.cells6 hSw.1; obtain ⟨o1_0, o1_1, o1_2, o1_3, o1_4, o1_5⟩ := Lies.cells6 hSw.2.1; obtain ⟨o2_0, o2_1, o2_2, o2_3, o2_4, o2_5⟩ := Lies.cells6 hSw.2.2.1; obtain ⟨o3_0, o3_1, o3_2, o3_3, o3_4, o3_5⟩ := Lies.cells6 hSw.2.2.2.1; obtain ⟨o4_0, o4_1⟩ := Lies.cells2 hSw.2.2.2.2.1; obtain ⟨o5_0, o5_1⟩ := Lies.cells2 hSw.2.2.2.2.2.1; obtain ⟨o6_0, o6_1⟩ := Lies.cells2 hSw.2.2.2.2.2.2.1; obtain ⟨o7_0, o7_1⟩ := Lies.cells2 hSw.2.2.2.2.2.2.2; go_simp; (try with_reducible rfl))
    try simp only [Act.put, List.setIfInBounds_toArray, List.set_cons_zero, List.set_cons_succ]
    refine wpAnyH_ready (rs := [38]) (by kernel_rfl) (by simp) ?_
    refine AllReadyH.cons rfl (fun K hK => ?_) AllReadyH.nil
    go_simp
    go_at_call 22
    with_reducible refine (CS4.out _ Z0_r3.out).mono ?_
    rintro x rw4 ⟨rfl, hb⟩
    have LN3_r4 := Lib.hid (Lies.below (w := rw3) LN3_r3.out hb (Lies.lt LN3_r3.out))
    have LN4_r4 := Lib.hid (Lies.below (w := rw3) LN4_r3.out hb (Lies.lt LN4_r3.out))
    have LN5_r4 := Lib.hid (Lies.below (w := rw3) LN5_r3.out hb (Lies.lt LN5_r3.out))
    have LN6_r4 := Lib.hid (Lies.below (w := rw3) LN6_r3.out hb (Lies.lt LN6_r3.out))
    have LN7_r4 := Lib.hid (Lies.below (w := rw3) LN7_r3.out hb (Lies.lt LN7_r3.out))
    have LN8_r4 := Lib.hid (Lies.below (w := rw3) LN8_r3.out hb (Lies.lt LN8_r3.out))
    have LN2_r4 := Lib.hid (Lies.below (w := rw3) LN2_r3.out hb (Lies.lt LN2_r3.out))
    have LF_r4 := Lib.hid (Lies.below (w := rw3) LF_r3.out hb (Lies.lt LF_r3.out))
    have Z0_r4 := Lib.hid (Z0_r3.out.trans (hb.mono Z0_r3.out.size))
    refine hK.out _ _ (⟨LN3_r4.out, LN4_r4.out, LN5_r4.out, LN6_r4.out, LN7_r4.out, LN8_r4.out, LN2_r4.out, LF_r4.out⟩) (fun hH4 => ?_)
    clear hK K hH3 hb
    try simp only [Act.put, List.setIfInBounds_toArray, List.set_cons_zero, List.set_cons_succ]
    refine wpAnyH_ready (rs := [40]) (by kernel_rfl) (by simp) ?_
    refine AllReadyH.cons rfl (fun K hK => ?_) AllReadyH.nil
    go_simp
    go_at_call 23
    with_reducible refine (CS5.out _ Z0_r4.out).mono ?_
    rintro x rw5 ⟨rfl, hb⟩
    have LN3_r5 := Lib.hid (Lies.below (w := rw4) LN3_r4.out hb (Lies.lt LN3_r4.out))
    have LN4_r5 := Lib.hid (Lies.below (w := rw4) LN4_r4.out hb (Lies.lt LN4_r4.out))
    have LN5_r5 := Lib.hid (Lies.below (w := rw4) LN5_r4.out hb (Lies.lt LN5_r4.out))
    have LN6_r5 := Lib.hid (Lies.below (w := rw4) LN6_r4.out hb (Lies.lt LN6_r4.out))
    have LN7_r5 := Lib.hid (Lies.below (w := rw4) LN7_r4.out hb (Lies.lt LN7_r4.out))
    have LN8_r5 := Lib.hid (Lies.below (w := rw4) LN8_r4.out hb (Lies.lt LN8_r4.out))
    have LN2_r5 := Lib.hid (Lies.below (w := rw4) LN2_r4.out hb (Lies.lt LN2_r4.out))
    have LF_r5 := Lib.hid (Lies.below (w := rw4) LF_r4.out hb (Lies.lt LF_r4.out))
    have Z0_r5 := Lib.hid (Z0_r4.out.trans (hb.mono Z0_r4.out.size))
    refine hK.out _ _ (⟨LN3_r5.out, LN4_r5.out, LN5_r5.out, LN6_r5.out, LN7_r5.out, LN8_r5.out, LN2_r5.out, LF_r5.out⟩) (fun hH5 => ?_)
    clear hK K hH4 hb
    try simp only [Act.put, List.setIfInBounds_toArray, List.set_cons_zero, List.set_cons_succ]
    refine any_take 41 118 ?vk1x41 rfl rfl (by kernel_rfl) (by kernel_rfl) (by kernel_rfl) (fun _ _ _ h => h) (by rfl) ?hyk1x41 hH5 ?restk1x41
    case hyk1x41 => ((intro W hSw); obtain ⟨o0_0, o0_1, o0_2, o0_3, o0_4, o0_5⟩ := Lies.cells6 hSw.1; obtain ⟨o1_0, o1_1, o1_2, o1_3, o1_4, o1_5⟩ := Lies.cells6 hSw.2.1; obtain ⟨o2_0, o2_1, o2_2, o2_3, o2_4, o2_5⟩ := Lies.cells6 hSw.2.2.1; obtain ⟨o3_0, o3_1, o3_2, o3_3, o3_4, o3_5⟩ := Lies.cells6 hSw.2.2.2.1; obtain ⟨o4_0, o4_1⟩ := Lies.cells2 hSw.2.2.2.2.1; obtain ⟨o5_0, o5_1⟩ := Lies.cells2 hSw.2.2.2.2.2.1; obtain ⟨o6_0, o6_1⟩ := Lies.cells2 hSw.2.2.2.2.2.2.1; obtain ⟨o7_0, o7_1⟩ := Lies.cells2 hSw.2.2.2.2.2.2.2; go_simp; (try with_reducible rfl))
    try simp only [Act.put, List.setIfInBounds_toArray, List.set_cons_zero, List.set_cons_succ]
    refine any_take 42 119 ?vk1x42 rfl rfl (by kernel_rfl) (by kernel_rfl) (by kernel_rfl) (fun _ _ _ h => h) (by rfl) ?hyk1x42 hH5 ?restk1x42
    case hyk1x42 => ((intro W hSw); obtain ⟨o0_0, o0_1, o0_2, o0_3, o0_4, o0_5⟩ := Lies.cells6 hSw.1; obtain ⟨o1_0, o1_1, o1_2, o1_3, o1_4, o1_5⟩ := Lies.cells6 hSw.2.1; obtain ⟨o2_0, o2_1, o2_2, o2_3, o2_4, o2_5⟩ := Lies.cells6 hSw.2.2.1; obtain ⟨o3_0, o3_1, o3_2, o3_3, o3_4, o3_5⟩ := Lies.cells6 hSw.2.2.2.1; obtain ⟨o4_0, o4_1⟩ := Lies.cells2 hSw.2.2.2.2.1; obtain ⟨o5_0, o5_1⟩ := Lies.cells2 hSw.2.2.2.2.2.1; obtain ⟨o6_0, o6_1⟩ := Lies.cells2 hSw.2.2.2.2.2.2.1; obtain ⟨o7_0, o7_1⟩ := Lies.cells2 hSw.2.2.2.2.2.2.2; go_simp; (try with_reducible rfl))
    try simp only [Act.put, List.setIfInBounds_toArray, List.set_cons_zero, List.set_cons_succ]
    clear hH5
    refine wpAnyH_done (by kernel_rfl) ?_ _
    refine NoPanic.normal ?_
    have HOb9 := Lib.hid (HOb3_8.out.below Z0_r5.out)
    have HOk9 := Lib.hid (HOk5_8.out.below Z0_r5.out)
    have NF9 := Lib.hid (NFs7_8.out.below Z0_r5.out)
    have Q3 := Lib.hid BX2_8.out
    have Q9 := Lib.hid (Q3.out.trans (Z0_r5.out.mono Q3.out.size))
    have BB9 := Lib.hid (BB_8.out.trans (Z0_r5.out.mono BB_8.out.size))
    clear CS1 CS2 CS3 CS4 CS5 KTb KTk Z0 Z0_r1 Z0_r2 Z0_r3 Z0_r4 t1 t2 t3 t4 t5
    obtain ⟨p0, p1, p2, p3, p4, p5⟩ := LN3_r5.out.cells6
    have CSp1 := Lib.hid (spoil_own _ an2.r _ rw5 HOb9.out.2.2 (by have := HAS.out (fun i hi => (HS1.out.2 i hi).2); omega))
    go_wp2_with fail
    with_reducible refine CSp1.out.mono ?_
    rintro x v1 ⟨rfl, hg⟩
    have Lk1 := Lib.hid (Lies.grown5 LN5_r5.out (by decide) HOb9.out.2.2 hg)
    have Ls1 := Lib.hid (Lies.grown5 LN7_r5.out (by decide) HOb9.out.2.2 hg)
    have Lx1 := Lib.hid (Lies.grown5 LN2_r5.out (by decide) HOb9.out.2.2 hg)
    have Lf1 := Lib.hid (Lies.grown5 LF_r5.out (by decide) HOb9.out.2.2 hg)
    have Q1 := Lib.hid (below_grown5 Q9.out HOb9.out.2.2 hg (Nat.le_refl _) Q9.out.size)
    have OK1 := Lib.hid (HOk9.out.2.1.grownOther hg (fun g e1 e2 => by have h1 := HOk9.out.2.1.block g e1; have h2 := HOb3_4.out.2.2.lt g e2; omega))
    have RW1 := Lib.hid (NF9.out.row.grown5 HOb9.out.2.2 hg)
    have TX1 : Hid (∀ k, k < sf2 → Own v1 ((w6.alloc (.cells #[.int .u32 (fk.o : Int), .int .i64 fk.s, .bool fk.u, .slice vA fk.a.length vd, .int .i64 fk.c, .slice vB fk.r.length ve] 34))).heap.size (Ys k).D (Ys k).k.r) := Lib.hid (fun k hk => (NF9.out.r k hk).grownOther hg (fun g e1 e2 => by have h1 := (NF9.out.r k hk).block g e1; have h2 := HOb3_6.out.2.2.lt g e2; omega))
    clear hg CSp1 p0 p1 p2 p3 p4 p5
    obtain ⟨p0, p1, p2, p3, p4, p5⟩ := Lk1.out.cells6
    have CSp2 := Lib.hid (spoil_own _ fk.a _ v1 OK1.out (by have := HFS.out (fun i hi => (HS1.out.2 i hi).1); omega))
    go_wp2_with fail
    with_reducible refine CSp2.out.mono ?_
    rintro x v2 ⟨rfl, hg⟩
    have Ls2 := Lib.hid (Lies.grown5 Ls1.out (by decide) OK1.out hg)
    have Lx2 := Lib.hid (Lies.grown5 Lx1.out (by decide) OK1.out hg)
    have Lf2 := Lib.hid (Lies.grown5 Lf1.out (by decide) OK1.out hg)
    have Q2 := Lib.hid (below_grown5 Q1.out OK1.out hg BX2_4.out.size Q1.out.size)
    have RW2 := Lib.hid (RW1.out.grown5 OK1.out hg)
    have TX2 : Hid (∀ k, k < sf2 → Own v2 ((w6.alloc (.cells #[.int .u32 (fk.o : Int), .int .i64 fk.s, .bool fk.u, .slice vA fk.a.length vd, .int .i64 fk.c, .slice vB fk.r.length ve] 34))).heap.size (Ys k).D (Ys k).k.r) := Lib.hid (fun k hk => (TX1.out k hk).grownOther hg (fun g e1 e2 => by have h1 := (TX1.out k hk).block g e1; have h2 := HOk5_6.out.2.1.lt g e2; omega))
    clear hg CSp2 p0 p1 p2 p3 p4 p5 RW1 TX1 OK1 Lk1 Ls1 Lx1 Lf1 Q1 HOb9 HOk9
    obtain ⟨l0, l1⟩ := Ls2.out.cells2
    go_wp2_with fail
    have hsf : sf2 ≤ 300 := Nat.le_trans HSN.out.1 HS1.out.1
    go_loopw [22] (AkR ((w2.alloc (.cells #[.int .u32 (ep : Int), .slice Ax n cx] 25))) ((w6.alloc (.cells #[.int .u32 (fk.o : Int), .int .i64 fk.s, .bool fk.u, .slice vA fk.a.length vd, .int .i64 fk.c, .slice vB fk.r.length ve] 34))).heap.size As sf2 cs Ys w7.heap.size w2.heap.size w.heap.size #[.int .u32 (sf1 : Int), .slice As sf2 cs] #[.int .u32 (ep : Int), .slice Ax n cx] #[.int .u32 (ep : Int), .slice A n c]) (fun i _ => sf2 - (intOf i).toNat)
    case atStart => exact ⟨0, Ys, by omega, rfl, RW2.out, (fun k _ _ => rfl), (fun k _ hk => TX2.out k hk), Ls2.out, Lx2.out, Lf2.out, Q2.out⟩
    case round =>
      obtain ⟨j, X, hj, rfl, hrow, hsame, htx, hls, hlx, hlf, hq⟩ := hrel
      have RW := Lib.hid hrow
      have SM2 := Lib.hid hsame
      have TX := Lib.hid htx
      have Ls := Lib.hid hls
      have Lx := Lib.hid hlx
      have Lf := Lib.hid hlf
      have Q := Lib.hid hq
      clear hrow hsame htx hls hlx hlf hq l0 l1
      obtain ⟨l0, l1⟩ := Ls.out.cells2
      by_cases hlt : j < sf2
      · obtain ⟨A', c', hv, -, -, -, hat⟩ := RW.out.slice
        injection hv with z1 z2 z3
        subst z1 z3
        obtain ⟨b, off, rfl, -, hbB, -⟩ := hat (by omega)
        have HBB := Lib.hid hbB
        have hi : (j : Int) < (sf2 : Int) := by omega
        have HXJ := Lib.hid (SM2.out j (Nat.le_refl _) hlt)
        have HTX := Lib.hid (TX.out j (Nat.le_refl _) hlt)
        obtain ⟨E2, d2, e2, -⟩ := HTX.out.slice
        obtain ⟨⟨q0, q1, q2, q3, q4, q5⟩, f0, f1, f2, f3, f4, f5⟩ := RW.out.at j hlt
        rw [HXJ.out, e2] at q5
        have CSp := Lib.hid (spoil_own _ _ _ wr HTX.out (by rw [HYs.out j hlt]; have h1 := (HS1.out.2 j (Nat.lt_of_lt_of_le hlt HSN.out.1)).2; rw [HSN.out.2 j hlt]; omega))
        rw [e2] at CSp
        clear q0 q1 q2 q3 q4 f0 f1 f2 f3 f4 f5 hat hbB z2
        go_wp2_with fail
        with_reducible refine CSp.out.mono ?_
        rintro x v3 ⟨rfl, hg⟩
        rw [← e2] at hg
        have RW3 := Lib.hid (RW.out.grown5 HTX.out hg)
        have Ls3 := Lib.hid (Lies.grown5 Ls.out (by decide) HTX.out hg)
        have Lx3 := Lib.hid (Lies.grown5 Lx.out (by decide) HTX.out hg)
        have Lf3 := Lib.hid (Lies.grown5 Lf.out (by decide) HTX.out hg)
        have Q3b := Lib.hid (below_grown5 Q.out HTX.out hg BX2_6.out.size Q.out.size)
        have TX3 : Hid (∀ k, j + 1 ≤ k → k < sf2 → Own v3 ((w6.alloc (.cells #[.int .u32 (fk.o : Int), .int .i64 fk.s, .bool fk.u, .slice vA fk.a.length vd, .int .i64 fk.c, .slice vB fk.r.length ve] 34))).heap.size (Ys k).D (Ys k).k.r) := Lib.hid (fun k h1 h2 => (TX.out k (by omega) h2).grownOther hg (fun g e1 e2 => NF9.out.dr k j h2 (by omega) g e2 e1))
        clear hg q5 l0 l1 CSp
        obtain ⟨l0, l1⟩ := Ls3.out.cells2
        obtain ⟨⟨q0, q1, q2, q3, q4, q5⟩, f0, f1, f2, f3, f4, f5⟩ := RW3.out.at j hlt
        obtain ⟨rcs, hrl⟩ := RW3.out.lies
        have RL := Lib.hid hrl
        clear hrl e2
        have SET := Lib.hid (RW3.out.set1 j 0 hlt (by decide) (.int .u32 0) ⟨⟨0, (X j).k.s, (X j).k.u, (X j).k.a, (X j).k.c, (X j).k.r⟩, (X j).K, (X j).D⟩ (fun i => by rcases i with _ | i <;> simp))
        rw [Nat.add_zero] at SET
        go_wp2
        go_roundw
        case rel =>
          refine ⟨j + 1, _, by omega, by go_num, SET.out, fun k h1 h2 => ?_, fun k h1 h2 => (TX3.out k h1 h2).lies_put RL.out (by decide) _ _, Ls3.out.other (a := ⟨b, off + j * 6, none⟩) (fun e => RW3.out.ne Ls3.out (by decide) (by rw [e]; rfl)) _, Lx3.out.other (a := ⟨b, off + j * 6, none⟩) (fun e => RW3.out.ne Lx3.out (by decide) (by rw [e]; rfl)) _, Lf3.out.other (a := ⟨b, off + j * 6, none⟩) (fun e => RW3.out.ne Lf3.out (by decide) (by rw [e]; rfl)) _, Q3b.out.setCell (p := ⟨b, off + j * 6, none⟩) (Nat.le_trans BX2_6.out.size HBB.out) _⟩
          try dsimp only
          rw [if_neg (by omega)]
          exact SM2.out k (by omega) h2
        case measure => simp [intOf]; omega
      · have d0 : decide ((j : Int) < (sf2 : Int)) = false := by rw [decide_eq_false_iff_not]; omega
        have d0b : decide (j < sf2) = false := by rw [decide_eq_false_iff_not]; omega
        obtain ⟨x0, x1⟩ := Lx.out.cells2
        obtain ⟨y0, y1⟩ := Lf.out.cells2
        have CE := Lib.hid (CSF.out ep Ax A n cx c T wr (HX2.out.below Q.out) (HF_2.out.below Q.out))
        have BE := Lib.hid (BB_2.out.trans (Q.out.mono BB_2.out.size))
        go_wp2_with fail
        with_reducible refine CE.out.mono ?_
        rintro x v4 ⟨rfl, hb⟩
        have BE4 := Lib.hid (BE.out.trans (hb.mono BE.out.size))
        clear hb
        go_wp2_with fail
        with_reducible refine (CKN.out _).mono ?_
        rintro x v5 ⟨rfl, hb⟩
        have BE5 := Lib.hid (BE4.out.trans (hb.mono BE4.out.size))
        clear hb
        go_wp2
        go_ret
        exact ⟨rfl, BE5.out⟩
  · go_wp2_with fail
    with_reducible refine (CKN.out _).mono ?_
    rintro x w2 ⟨rfl, hb⟩
    have BBk := Lib.hid (BB_1.out.trans (hb.mono BB_1.out.size))
    clear hb
    go_wp2
    go_ret
    exact ⟨rfl, BBk.out⟩

end Go.Proofs.Ytfcfejmammohpaa
