/-
  Texts of one proof, in their order: CExe, CDcd, CSrvP.
-/
import Derived.Test.YtpbclmnhkmcknaaGreatB14
namespace Go.Proofs.YtpbclmnhkmcknaaGreat
open Go.RowKit
open Fe (Lies Own Bys Reads NF Kx Kp Note)
set_option maxRecDepth 100000
set_option linter.unusedVariables false
set_option linter.unusedSimpArgs false

theorem forward_any {R : List Int} {b : CB} {q : Cq} (o : Nat) (k : Wk) (A : Option Addr) (c : Nat) (B0 : Nat) (w : World) (h : CAt w b q) (hI : CInv R q) (ho : o < 4294967296) (hk : wkB k = true)
    (hO : Own w B0 (.slice A k.x.length c) k.x) (hB : B0 ≤ w.heap.size) (hF : ∀ i, b.foot i → i < B0) :
    Calls Tryz.prog 131 #[.pointer (some ⟨b.c, 0, none⟩), .int .u32 (o : Int), .agg #[.int .i64 k.t, .int .i64 k.n, .slice A k.x.length c]] w (WkPost w b B0 (fwdS q o k)) := by
  obtain ⟨h1, h2, h3, h4, h5⟩ := (wkB_iff k).1 hk
  obtain ⟨t, n, x⟩ := k
  dsimp only at *
  rcases (by omega : t = 1 ∨ t = 2 ∨ t = 3 ∨ t = 4 ∨ t = 5 ∨ t = 6) with rfl | rfl | rfl | rfl | rfl | rfl
  · exact forward1 o n x A c B0 w h hI ho ⟨h3, h4⟩ h5 hO hB hF
  · exact forward2 o n x A c B0 w h hI ho ⟨h3, h4⟩ h5 hO hB hF
  · exact forward3 o n x A c B0 w h hI ho ⟨h3, h4⟩ h5 hO hB hF
  · exact forward4 o n x A c B0 w h hI ho ⟨h3, h4⟩ h5 hO hB hF
  · exact forward5 o n x A c B0 w h hI ho ⟨h3, h4⟩ h5 hO hB hF
  · exact forward6 o n x A c B0 w h hI ho ⟨h3, h4⟩ h5 hO hB hF
theorem undo_any {R : List Int} {b : CB} {q : Cq} (o : Nat) (k : Wk) (A : Option Addr) (c : Nat) (B0 : Nat) (w : World) (h : CAt w b q) (hI : CInv R q) (ho : o < 4294967296) (hk : wkB k = true)
    (hO : Own w B0 (.slice A k.x.length c) k.x) (hB : B0 ≤ w.heap.size) (hF : ∀ i, b.foot i → i < B0) :
    Calls Tryz.prog 130 #[.pointer (some ⟨b.c, 0, none⟩), .int .u32 (o : Int), .agg #[.int .i64 k.t, .int .i64 k.n, .slice A k.x.length c]] w (UnPost w b B0 (bwdS q o k)) := by
  obtain ⟨h1, h2, h3, h4, h5⟩ := (wkB_iff k).1 hk
  obtain ⟨t, n, x⟩ := k
  dsimp only at *
  rcases (by omega : t = 1 ∨ t = 2 ∨ t = 3 ∨ t = 4 ∨ t = 5 ∨ t = 6) with rfl | rfl | rfl | rfl | rfl | rfl
  · exact undo1 o n x A c B0 w h hI ho ⟨h3, h4⟩ h5 hO hB hF
  · exact undo2 o n x A c B0 w h hI ho ⟨h3, h4⟩ h5 hO hB hF
  · exact undo3 o n x A c B0 w h hI ho ⟨h3, h4⟩ h5 hO hB hF
  · exact undo4 o n x A c B0 w h hI ho ⟨h3, h4⟩ h5 hO hB hF
  · exact undo5 o n x A c B0 w h hI ho ⟨h3, h4⟩ h5 hO hB hF
  · exact undo6 o n x A c B0 w h hI ho ⟨h3, h4⟩ h5 hO hB hF

theorem exec_none {q : Cq} {o : Nat} {u : Bool} {l : List Nat} (h : decS l = none) : execS q o u l = ⟨2, [], q⟩ := by unfold execS; rw [h]
theorem exec_undo {q : Cq} {o : Nat} {l : List Nat} {k : Wk} (h : decS l = some k) : execS q o true l = bwdS q o k := by unfold execS; rw [h]; rfl
theorem exec_fwd {q : Cq} {o : Nat} {l : List Nat} {k : Wk} (h : decS l = some k) : execS q o false l = fwdS q o k := by unfold execS; rw [h]; rfl
theorem bwd_r (q : Cq) (o : Nat) (k : Wk) : (bwdS q o k).r = [] := by
  unfold bwdS
  repeat' split
  all_goals rfl
set_option maxHeartbeats 4000000 in
theorem execute_any {R : List Int} {b : CB} {q : Cq} (N : Note) (A1 A2 : Option Addr) (c1 c2 : Nat) (w : World) (h : CAt w b q) (hI : CInv R q) (hN : Fe.EntV w N A1 A2 c1 c2) (hl : N.data.length ≤ 200000) :
    Calls Tryz.prog 101 #[.pointer (some ⟨b.c, 0, none⟩), .agg (Fe.evs N (.slice A1 N.key.length c1) (.slice A2 N.data.length c2))] w (WkPost w b w.heap.size (execS q N.order N.undo N.data)) := by
  obtain ⟨kd, e, ol, ls, tk, od, st, un, cd, ky, da⟩ := N
  have hod : od < 4294967296 := hN.b.order
  have hd := hN.d
  dsimp only at *
  have HA := Lib.hid (h.alloc (.cells #[.int .i64 kd, .int .u32 (e : Int), .int .u32 (ol : Int), .int .u64 (ls : Int), .int .u64 (tk : Int), .int .u32 (od : Int), .int .i64 st, .bool un, .int .i64 cd, .slice A1 ky.length c1, .slice A2 da.length c2] 55))
  have LN := Lib.hid (Lies.made w 55 #[.int .i64 kd, .int .u32 (e : Int), .int .u32 (ol : Int), .int .u64 (ls : Int), .int .u64 (tk : Int), .int .u32 (od : Int), .int .i64 st, .bool un, .int .i64 cd, .slice A1 ky.length c1, .slice A2 da.length c2])
  have BB := Lib.hid (Fe.below1 w (.cells #[.int .i64 kd, .int .u32 (e : Int), .int .u32 (ol : Int), .int .u64 (ls : Int), .int .u64 (tk : Int), .int .u32 (od : Int), .int .i64 st, .bool un, .int .i64 cd, .slice A1 ky.length c1, .slice A2 da.length c2] 55))
  have CD := Lib.hid (decode_any da A2 da.length c2 _ (hd.alloc (.cells #[.int .i64 kd, .int .u32 (e : Int), .int .u32 (ol : Int), .int .u64 (ls : Int), .int .u64 (tk : Int), .int .u32 (od : Int), .int .i64 st, .bool un, .int .i64 cd, .slice A1 ky.length c1, .slice A2 da.length c2] 55)) hl)
  have HF := Lib.hid (fun i (hi : b.foot i) => h.foot_lt hi)
  have HI := Lib.hid hI
  obtain ⟨c_0, c_1, c_2, c_3, c_4, c_5, c_6, c_7, c_8, c_9, c_10⟩ := LN.out.cells11
  unfold DecPost at CD
  clear h hN hd hI
  go_enter Tryz.func101, Tryz.ntmps101
  go_wp2_with fail
  with_reducible refine CD.out.mono ?_
  rintro x w2 ⟨hb2, ⟨hn, rfl⟩ | ⟨k, s, hs, hsn, rfl, hO⟩⟩
  · have HA2 := Lib.hid ((HA.out.below hb2).alloc (.cells #[.int .i64 0, .int .i64 0, .slice none 0 0] 24))
    have BB2 := Lib.hid ((BB.out.trans (hb2.mono BB.out.size)).alloc (BB.out.trans (hb2.mono BB.out.size)).size (.cells #[.int .i64 0, .int .i64 0, .slice none 0 0] 24))
    have HN := Lib.hid hn
    clear hb2 hn CD
    go_wp2
    go_ret2
    rw [exec_none HN.out]
    exact ⟨_, b, rfl, Own.nil _ _, (fun i hi => by cases hi), rfl, HA2.out, Chg.of BB2.out, fun i hi => .inl hi⟩
  · obtain ⟨A, n, c⟩ := s
    have hwk := (decS_some hs).2.2
    dsimp only [Sl.v] at hsn hO
    subst hsn
    have LW : Hid (Lies (w2.alloc (.cells #[.int .i64 k.t, .int .i64 k.n, .slice A k.x.length c] 24)) w2.heap.size 24 #[.int .i64 k.t, .int .i64 k.n, .slice A k.x.length c]) := Lib.hid (Lies.made w2 24 _)
    have LN2 : Hid (Lies (w2.alloc (.cells #[.int .i64 k.t, .int .i64 k.n, .slice A k.x.length c] 24)) w.heap.size 55 #[.int .i64 kd, .int .u32 (e : Int), .int .u32 (ol : Int), .int .u64 (ls : Int), .int .u64 (tk : Int), .int .u32 (od : Int), .int .i64 st, .bool un, .int .i64 cd, .slice A1 ky.length c1, .slice A2 da.length c2]) := Lib.hid ((LN.out.below hb2 LN.out.lt).alloc _)
    have HA2 : Hid (CAt (w2.alloc (.cells #[.int .i64 k.t, .int .i64 k.n, .slice A k.x.length c] 24)) b q) := Lib.hid ((HA.out.below hb2).alloc _)
    have BB2 : Hid (Below w.heap.size w (w2.alloc (.cells #[.int .i64 k.t, .int .i64 k.n, .slice A k.x.length c] 24))) := Lib.hid ((BB.out.trans (hb2.mono BB.out.size)).alloc (BB.out.trans (hb2.mono BB.out.size)).size _)
    have HO2 : Hid (Own (w2.alloc (.cells #[.int .i64 k.t, .int .i64 k.n, .slice A k.x.length c] 24)) w.heap.size (.slice A k.x.length c) k.x) := Lib.hid ((hO.mono BB.out.size).alloc _)
    have HS := Lib.hid hs
    clear hb2 hO CD hs c_0 c_1 c_2 c_3 c_4 c_5 c_6 c_7 c_8 c_9 c_10
    obtain ⟨d0, d1, d2⟩ := LW.out.cells3
    obtain ⟨c_0, c_1, c_2, c_3, c_4, c_5, c_6, c_7, c_8, c_9, c_10⟩ := LN2.out.cells11
    cases un
    · have C := Lib.hid (forward_any od k A c w.heap.size _ HA2.out HI.out hod hwk HO2.out BB2.out.size HF.out)
      unfold WkPost at C
      go_wp2_with fail
      with_reducible refine C.out.mono ?_
      rintro x w3 ⟨v, b', rfl, hv, hvf, hc, hA, hC, hf⟩
      have HVF3 := Lib.hid hvf
      have HV3 := Lib.hid (hv.mono BB2.out.size)
      have HA3 := Lib.hid hA
      have HC3 := Lib.hid ((Chg.of BB2.out (F := b.foot)).trans hC fun i hi => .inl hi)
      have HR3 := Lib.hid (And.intro hc hf)
      clear hv hvf hc hA hC hf C
      go_wp2
      go_ret2
      rw [exec_fwd HS.out]
      exact ⟨_, b', rfl, HV3.out, HVF3.out, HR3.out.1, HA3.out, HC3.out, HR3.out.2⟩
    · have C := Lib.hid (undo_any od k A c w.heap.size _ HA2.out HI.out hod hwk HO2.out BB2.out.size HF.out)
      unfold UnPost at C
      go_wp2_with fail
      with_reducible refine C.out.mono ?_
      rintro x w3 ⟨b', rfl, hc, hA, hC, hf⟩
      have HA3 := Lib.hid hA
      have HC3 := Lib.hid ((Chg.of BB2.out (F := b.foot)).trans hC fun i hi => .inl hi)
      have HR3 := Lib.hid (And.intro hc hf)
      clear hc hA hC hf C
      go_wp2
      go_ret2
      rw [exec_undo HS.out]
      exact ⟨_, b', rfl, by rw [bwd_r]; exact Own.nil _ _, (fun i hi => by cases hi), HR3.out.1, HA3.out, HC3.out, HR3.out.2⟩

end Go.Proofs.YtpbclmnhkmcknaaGreat

namespace Go.Proofs.YtpbclmnhkmcknaaGreat
open Go.RowKit
open Fe (Lies Own Bys Reads NF Kx Kp Note)
set_option maxRecDepth 100000
set_option linter.unusedVariables false
set_option linter.unusedSimpArgs false

theorem decide3 (q : Cq) (N : Note) : decideS q 3 N = ⟨2, [], q⟩ := by unfold decideS; rw [if_pos rfl]
theorem decide4 (q : Cq) (N : Note) : decideS q 4 N = ⟨1, [], q⟩ := by unfold decideS; rw [if_neg (by decide), if_pos rfl]
theorem decide1 (q : Cq) (N : Note) : decideS q 1 N = effS (execS q N.order N.undo N.data) ⟨N.order, N.step, N.undo⟩ := by unfold decideS; rw [if_neg (by decide), if_neg (by decide)]
/-- What a step's work leaves of the crew's rows. -/
theorem exec_E (q : Cq) (o : Nat) (u : Bool) (l : List Nat) : (execS q o u l).q.E = q.E ∧ (execS q o u l).q.f = q.f := by
  unfold execS
  split
  · exact ⟨rfl, rfl⟩
  · split
    · unfold bwdS
      repeat' split
      all_goals exact ⟨rfl, rfl⟩
    · unfold fwdS
      repeat' split
      all_goals exact ⟨rfl, rfl⟩
set_option maxHeartbeats 4000000 in
theorem decide_any {R : List Int} {b : CB} {q : Cq} (act : Nat) (hact : act = 1 ∨ act = 3 ∨ act = 4) (N : Note) (A1 A2 : Option Addr) (c1 c2 : Nat) (w : World) (h : CAt w b q) (hI : CInv R q) (hN : Fe.EntV w N A1 A2 c1 c2) (hs : Fe.in64 N.step) (hl : N.data.length ≤ 200000) :
    Calls Tryz.prog 66 #[.pointer (some ⟨b.c, 0, none⟩), .int .i64 (act : Int), .agg (Fe.evs N (.slice A1 N.key.length c1) (.slice A2 N.data.length c2))] w (WkPost w b w.heap.size (decideS q act N)) := by
  rcases hact with rfl | rfl | rfl
  · obtain ⟨kd, e, ol, ls, tk, od, st, un, cd, ky, da⟩ := N
    dsimp only at *
    have HN1 := hN.below (Fe.below1 w (.cells #[.int .i64 kd, .int .u32 (e : Int), .int .u32 (ol : Int), .int .u64 (ls : Int), .int .u64 (tk : Int), .int .u32 (od : Int), .int .i64 st, .bool un, .int .i64 cd, .slice A1 ky.length c1, .slice A2 da.length c2] 55))
    have CX := Lib.hid (execute_any ⟨kd, e, ol, ls, tk, od, st, un, cd, ky, da⟩ A1 A2 c1 c2 _ (h.alloc (.cells #[.int .i64 kd, .int .u32 (e : Int), .int .u32 (ol : Int), .int .u64 (ls : Int), .int .u64 (tk : Int), .int .u32 (od : Int), .int .i64 st, .bool un, .int .i64 cd, .slice A1 ky.length c1, .slice A2 da.length c2] 55)) hI HN1 hl)
    have LN := Lib.hid (Lies.made w 55 #[.int .i64 kd, .int .u32 (e : Int), .int .u32 (ol : Int), .int .u64 (ls : Int), .int .u64 (tk : Int), .int .u32 (od : Int), .int .i64 st, .bool un, .int .i64 cd, .slice A1 ky.length c1, .slice A2 da.length c2])
    have BB := Lib.hid (Fe.below1 w (.cells #[.int .i64 kd, .int .u32 (e : Int), .int .u32 (ol : Int), .int .u64 (ls : Int), .int .u64 (tk : Int), .int .u32 (od : Int), .int .i64 st, .bool un, .int .i64 cd, .slice A1 ky.length c1, .slice A2 da.length c2] 55))
    have HNF : Hid (¬ b.foot w.heap.size) := Lib.hid (fun hf => by have := h.foot_lt hf; omega)
    have HEL : Hid ((execS q od un da).q.E.length ≤ 100000) := Lib.hid (by rw [(exec_E q od un da).1]; have h1 := hI.el; have h2 := hI.n; omega)
    have HD1 := Lib.hid (decide1 q ⟨kd, e, ol, ls, tk, od, st, un, cd, ky, da⟩)
    dsimp only at CX HD1
    obtain ⟨c_0, c_1, c_2, c_3, c_4, c_5, c_6, c_7, c_8, c_9, c_10⟩ := LN.out.cells11
    obtain ⟨R1, hR1⟩ : ∃ r, execS q od un da = r := ⟨_, rfl⟩
    rw [hR1] at CX HD1 HEL
    unfold WkPost at CX
    have HB0 : Hid (w.heap.size ≤ w.heap.size) := Lib.hid (Nat.le_refl _)
    clear h hI hN HN1 hR1
    rw [show ((1 : Nat) : Int) = 1 from rfl]
    go_enter Tryz.func66, Tryz.ntmps66
    go_wp2_with fail
    with_reducible refine CX.out.mono ?_
    rintro x w2 ⟨v, b', rfl, hv, hvf, hc, hA, hC, hf⟩
    have HVF := Lib.hid hvf
    have HV2 := Lib.hid (hv.mono BB.out.size)
    have HA2 := Lib.hid hA
    have HC2 := Lib.hid ((Chg.of BB.out (F := b.foot)).trans hC fun i hi => .inl hi)
    have HF2 : Hid (∀ i, b'.foot i → b.foot i ∨ w.heap.size ≤ i) := Lib.hid (fun i hi => by
      rcases hf i hi with h1 | h1
      · exact .inl h1
      · exact .inr (Nat.le_trans BB.out.size h1))
    have LN2 : Hid (Lies w2 w.heap.size 55 #[.int .i64 kd, .int .u32 (e : Int), .int .u32 (ol : Int), .int .u64 (ls : Int), .int .u64 (tk : Int), .int .u32 (od : Int), .int .i64 st, .bool un, .int .i64 cd, .slice A1 ky.length c1, .slice A2 da.length c2]) := Lib.hid ((hC.block _ LN.out.lt HNF.out).trans LN.out)
    have HNF2 : Hid (¬ b'.foot w.heap.size) := Lib.hid (fun hi => by
      rcases hf _ hi with h1 | h1
      · exact HNF.out h1
      · have := Fe.size_one w (.cells #[.int .i64 kd, .int .u32 (e : Int), .int .u32 (ol : Int), .int .u64 (ls : Int), .int .u64 (tk : Int), .int .u32 (od : Int), .int .i64 st, .bool un, .int .i64 cd, .slice A1 ky.length c1, .slice A2 da.length c2] 55); omega)
    have HCC := Lib.hid hc
    clear hv hvf hA hC hf CX hc c_0 c_1 c_2 c_3 c_4 c_5 c_6 c_7 c_8 c_9 c_10
    by_cases hv1 : R1.v = 1
    · have HD : Hid (decideS q 1 ⟨kd, e, ol, ls, tk, od, st, un, cd, ky, da⟩ = ⟨R1.v, R1.r, addE R1.q ⟨od, st, un⟩⟩) := Lib.hid (by rw [HD1.out]; unfold effS; rw [if_pos hv1])
      have d1 : (R1.v == 1) = true := by simpa using hv1
      have HV1 := Lib.hid hv1
      clear hv1
      go_wp2_with fail
      have HAb : Hid (CAt (w2.alloc (.cells #[.int .u32 (od : Int), .int .i64 st, .bool un] 83)).drew b' R1.q) := Lib.hid (HA2.out.alloc _).drew
      have HCb : Hid (Lies (w2.alloc (.cells #[.int .u32 (od : Int), .int .i64 st, .bool un] 83)).drew b.c 122 #[.pointer (some ⟨b'.s.s, 0, none⟩), .pointer (some ⟨b'.p.s, 0, none⟩), .pointer (some ⟨b'.d.s, 0, none⟩), .int .u32 (R1.q.f.ep : Int), b'.vL, b'.vE, b'.vM]) := Lib.hid (by rw [← HCC.out]; exact HAb.out.c)
      have LNb : Hid (Lies (w2.alloc (.cells #[.int .u32 (od : Int), .int .i64 st, .bool un] 83)).drew w.heap.size 55 #[.int .i64 kd, .int .u32 (e : Int), .int .u32 (ol : Int), .int .u64 (ls : Int), .int .u64 (tk : Int), .int .u32 (od : Int), .int .i64 st, .bool un, .int .i64 cd, .slice A1 ky.length c1, .slice A2 da.length c2]) := Lib.hid (LN2.out.alloc _)
      have LE : Hid (Lies (w2.alloc (.cells #[.int .u32 (od : Int), .int .i64 st, .bool un] 83)).drew w2.heap.size 83 #[.int .u32 (od : Int), .int .i64 st, .bool un]) := Lib.hid (Lies.made w2 83 _)
      have HEb : Hid (OwnF (w2.alloc (.cells #[.int .u32 (od : Int), .int .i64 st, .bool un] 83)).drew 0 b'.vE R1.q.E) := Lib.hid HAb.out.e
      have HBW : Hid (Below w2.heap.size w2 (w2.alloc (.cells #[.int .u32 (od : Int), .int .i64 st, .bool un] 83)).drew) := Lib.hid (Fe.below1 w2 _).drew
      have HKC : Hid (b'.vE.ownBlock ≠ some b.c) := Lib.hid (by rw [← HCC.out]; exact fun e => (HAb.out.ke e).ne HAb.out.kc (by decide) rfl)
      have HKB : Hid (b'.vE.ownBlock ≠ some w.heap.size) := Lib.hid (fun e => (HAb.out.ke e).ne (Kb.of LNb.out) (by decide) rfl)
      have HNB : Hid (w.heap.size ≠ b.c) := Lib.hid (by rw [← HCC.out]; exact fun e => HNF2.out (.inl e))
      have h7 := HA2.out.c
      rw [HCC.out] at h7
      obtain ⟨c0, c1', c2', c3, c4, c5, c6⟩ := Lies_cells7 h7
      clear h7
      obtain ⟨d0, d1', d2', d3, d4, d5, d6⟩ := Lies_cells7 HCb.out
      refine wp_region_noPanic ?_
      refine wp_region_held_drew (S := fun W => Lies W w.heap.size 55 #[.int .i64 kd, .int .u32 (e : Int), .int .u32 (ol : Int), .int .u64 (ls : Int), .int .u64 (tk : Int), .int .u32 (od : Int), .int .i64 st, .bool un, .int .i64 cd, .slice A1 ky.length c1, .slice A2 da.length c2]) (by kernel_rfl) (LN2.out) (fun hH0 => ?_)
      refine Fe.any_take 0 23 ?vt2 rfl rfl (by kernel_rfl) (by kernel_rfl) (by kernel_rfl) (fun _ _ _ h => h) (by rfl) ?ht2 hH0 ?rt2
      case ht2 => ((intro W hSw); obtain ⟨o_0, o_1, o_2, o_3, o_4, o_5, o_6, o_7, o_8, o_9, o_10⟩ := hSw.cells11; go_simp; (try with_reducible rfl))
      try simp only [Act.put, List.setIfInBounds_toArray, List.set_cons_zero, List.set_cons_succ]
      refine Fe.any_take 1 24 ?vt3 rfl rfl (by kernel_rfl) (by kernel_rfl) (by kernel_rfl) (fun _ _ _ h => h) (by rfl) ?ht3 hH0 ?rt3
      case ht3 => ((intro W hSw); obtain ⟨o_0, o_1, o_2, o_3, o_4, o_5, o_6, o_7, o_8, o_9, o_10⟩ := hSw.cells11; go_simp; (try with_reducible rfl))
      try simp only [Act.put, List.setIfInBounds_toArray, List.set_cons_zero, List.set_cons_succ]
      refine Fe.any_take 2 25 ?vt4 rfl rfl (by kernel_rfl) (by kernel_rfl) (by kernel_rfl) (fun _ _ _ h => h) (by rfl) ?ht4 hH0 ?rt4
      case ht4 => ((intro W hSw); obtain ⟨o_0, o_1, o_2, o_3, o_4, o_5, o_6, o_7, o_8, o_9, o_10⟩ := hSw.cells11; go_simp; (try with_reducible rfl))
      try simp only [Act.put, List.setIfInBounds_toArray, List.set_cons_zero, List.set_cons_succ]
      refine Fe.any_take 3 26 ?vt5 rfl rfl (by kernel_rfl) (by kernel_rfl) (by kernel_rfl) (fun _ _ _ h => h) (by rfl) ?ht5 hH0 ?rt5
      case ht5 => ((intro W hSw); obtain ⟨o_0, o_1, o_2, o_3, o_4, o_5, o_6, o_7, o_8, o_9, o_10⟩ := hSw.cells11; go_simp; (try with_reducible rfl))
      try simp only [Act.put, List.setIfInBounds_toArray, List.set_cons_zero, List.set_cons_succ]
      refine Fe.any_take 5 28 ?vt6 rfl rfl (by kernel_rfl) (by kernel_rfl) (by kernel_rfl) (fun _ _ _ h => h) (by rfl) ?ht6 hH0 ?rt6
      case ht6 => ((intro W hSw); obtain ⟨o_0, o_1, o_2, o_3, o_4, o_5, o_6, o_7, o_8, o_9, o_10⟩ := hSw.cells11; go_simp; (try with_reducible rfl))
      try simp only [Act.put, List.setIfInBounds_toArray, List.set_cons_zero, List.set_cons_succ]
      refine Fe.any_take 6 29 ?vt7 rfl rfl (by kernel_rfl) (by kernel_rfl) (by kernel_rfl) (fun _ _ _ h => h) (by rfl) ?ht7 hH0 ?rt7
      case ht7 => ((intro W hSw); obtain ⟨o_0, o_1, o_2, o_3, o_4, o_5, o_6, o_7, o_8, o_9, o_10⟩ := hSw.cells11; go_simp; (try with_reducible rfl))
      try simp only [Act.put, List.setIfInBounds_toArray, List.set_cons_zero, List.set_cons_succ]
      refine Fe.any_take 7 30 ?vt8 rfl rfl (by kernel_rfl) (by kernel_rfl) (by kernel_rfl) (fun _ _ _ h => h) (by rfl) ?ht8 hH0 ?rt8
      case ht8 => ((intro W hSw); obtain ⟨o_0, o_1, o_2, o_3, o_4, o_5, o_6, o_7, o_8, o_9, o_10⟩ := hSw.cells11; go_simp; (try with_reducible rfl))
      try simp only [Act.put, List.setIfInBounds_toArray, List.set_cons_zero, List.set_cons_succ]
      refine Fe.any_take 8 31 ?vt9 rfl rfl (by kernel_rfl) (by kernel_rfl) (by kernel_rfl) (fun _ _ _ h => h) (by rfl) ?ht9 hH0 ?rt9
      case ht9 => ((intro W hSw); obtain ⟨o_0, o_1, o_2, o_3, o_4, o_5, o_6, o_7, o_8, o_9, o_10⟩ := hSw.cells11; go_simp; (try with_reducible rfl))
      try simp only [Act.put, List.setIfInBounds_toArray, List.set_cons_zero, List.set_cons_succ]
      refine Fe.any_take 9 32 ?vt10 rfl rfl (by kernel_rfl) (by kernel_rfl) (by kernel_rfl) (fun _ _ _ h => h) (by rfl) ?ht10 hH0 ?rt10
      case ht10 => ((intro W hSw); obtain ⟨o_0, o_1, o_2, o_3, o_4, o_5, o_6, o_7, o_8, o_9, o_10⟩ := hSw.cells11; go_simp; (try with_reducible rfl))
      try simp only [Act.put, List.setIfInBounds_toArray, List.set_cons_zero, List.set_cons_succ]
      refine Fe.any_take 10 33 ?vt11 rfl rfl (by kernel_rfl) (by kernel_rfl) (by kernel_rfl) (fun _ _ _ h => h) (by rfl) ?ht11 hH0 ?rt11
      case ht11 => ((intro W hSw); obtain ⟨o_0, o_1, o_2, o_3, o_4, o_5, o_6, o_7, o_8, o_9, o_10⟩ := hSw.cells11; go_simp; (try with_reducible rfl))
      try simp only [Act.put, List.setIfInBounds_toArray, List.set_cons_zero, List.set_cons_succ]
      refine Fe.any_take 11 34 ?vt12 rfl rfl (by kernel_rfl) (by kernel_rfl) (by kernel_rfl) (fun _ _ _ h => h) (by rfl) ?ht12 hH0 ?rt12
      case ht12 => ((intro W hSw); obtain ⟨o_0, o_1, o_2, o_3, o_4, o_5, o_6, o_7, o_8, o_9, o_10⟩ := hSw.cells11; go_simp; (try with_reducible rfl))
      try simp only [Act.put, List.setIfInBounds_toArray, List.set_cons_zero, List.set_cons_succ]
      refine wpAnyH_ready (rs := [4, 12]) (by kernel_rfl) (by simp) ?_
      refine AllReadyH.cons rfl (fun K hK => ?ord1) (AllReadyH.cons rfl (fun K hK => ?ord2) AllReadyH.nil)
      case ord1 =>
        go_simp
        refine hK.out _ _ LN2.out (fun hH1 => ?_)
        clear hK K hH0
        try simp only [Act.put, List.setIfInBounds_toArray, List.set_cons_zero, List.set_cons_succ]
        refine wpAnyH_ready (rs := [12]) (by kernel_rfl) (by simp) ?_
        refine AllReadyH.cons rfl (fun K hK => ?_) AllReadyH.nil
        go_simp
        refine hK.out _ _ LNb.out (fun hH2 => ?_)
        clear hK K hH1
        try simp only [Act.put, List.setIfInBounds_toArray, List.set_cons_zero, List.set_cons_succ]
        refine wpAnyH_ready (rs := [13]) (by kernel_rfl) (by simp) ?_
        refine AllReadyH.cons rfl (fun K hK => ?_) AllReadyH.nil
        refine stp_appF (some 36) _ _ _ (.tmp 27) (.tmp 35) b'.vE R1.q.E w2.heap.size ⟨od, st, un⟩ rfl rfl HEb.out LE.out HEL.out (fun v4 w4 ho4 hg4 hb4 => ?_)
        have HL4 : Hid (Lies w4 b.c 122 #[.pointer (some ⟨b'.s.s, 0, none⟩), .pointer (some ⟨b'.p.s, 0, none⟩), .pointer (some ⟨b'.d.s, 0, none⟩), .int .u32 (R1.q.f.ep : Int), b'.vL, b'.vE, b'.vM]) := Lib.hid (Lies_same HCb.out (hg4.block b.c HCb.out.lt (fun e => HKC.out e.symm)))
        have LB4 : Hid (Lies w4 w.heap.size 55 #[.int .i64 kd, .int .u32 (e : Int), .int .u32 (ol : Int), .int .u64 (ls : Int), .int .u64 (tk : Int), .int .u32 (od : Int), .int .i64 st, .bool un, .int .i64 cd, .slice A1 ky.length c1, .slice A2 da.length c2]) := Lib.hid (Lies_same LNb.out (hg4.block _ LNb.out.lt (fun e => HKB.out e.symm)))
        have HO4 := Lib.hid ho4
        have HG4 := Lib.hid hg4
        have HB4 := Lib.hid hb4
        have HONE := Lib.hid (OwnF_one ho4)
        clear ho4 hg4 hb4
        refine hK.out _ _ LB4.out (fun hHa => ?_)
        clear hK K hH2
        try simp only [Act.put, List.setIfInBounds_toArray, List.set_cons_zero, List.set_cons_succ]
        refine Fe.any_take 14 37 ?vt13 rfl rfl (by kernel_rfl) (by kernel_rfl) (by kernel_rfl) (fun _ _ _ h => h) (by rfl) ?ht13 hHa ?rt13
        case ht13 => ((intro W hSw); obtain ⟨o_0, o_1, o_2, o_3, o_4, o_5, o_6, o_7, o_8, o_9, o_10⟩ := hSw.cells11; go_simp; (try with_reducible rfl))
        try simp only [Act.put, List.setIfInBounds_toArray, List.set_cons_zero, List.set_cons_succ]
        refine Fe.any_take 15 38 ?vt14 rfl rfl (by kernel_rfl) (by kernel_rfl) (by kernel_rfl) (fun _ _ _ h => h) (by rfl) ?ht14 hHa ?rt14
        case ht14 => ((intro W hSw); obtain ⟨o_0, o_1, o_2, o_3, o_4, o_5, o_6, o_7, o_8, o_9, o_10⟩ := hSw.cells11; go_simp; (try with_reducible rfl))
        try simp only [Act.put, List.setIfInBounds_toArray, List.set_cons_zero, List.set_cons_succ]
        refine wpAnyH_ready (rs := [16]) (by kernel_rfl) (by simp) ?_
        refine AllReadyH.cons rfl (fun K hK => ?_) AllReadyH.nil
        refine St.stp_putC none _ _ _ 68 (.tmp 38) (.tmp 36) b.c 5 122 _ v4 rfl rfl HL4.out (by simp) (by kernel_rfl) HONE.out (fun w5 hp5 => ?_)
        have HFIN := Lib.hid (HA2.out.addE (B0 := w2.heap.size) HBW.out (Nat.le_refl _) HO4.out HG4.out HB4.out (by rw [HCC.out]; exact hp5))
        have LB5 : Hid (Lies w5 w.heap.size 55 #[.int .i64 kd, .int .u32 (e : Int), .int .u32 (ol : Int), .int .u64 (ls : Int), .int .u64 (tk : Int), .int .u32 (od : Int), .int .i64 st, .bool un, .int .i64 cd, .slice A1 ky.length c1, .slice A2 da.length c2]) := Lib.hid (Lies_same LB4.out (hp5.grown.block _ LB4.out.lt (fun e => HNB.out (by injection e))))
        have HV5 : Hid (Own w5 w.heap.size v R1.r) := Lib.hid (Own_same HV2.out fun i hi => HFIN.out.2.1.block i (HV2.out.lt i hi) (HVF.out i hi))
        refine hK.out _ _ LB5.out (fun hHb => ?_)
        clear hK K hHa hHb hp5
        try simp only [Act.put, List.setIfInBounds_toArray, List.set_cons_zero, List.set_cons_succ]
        refine wpAnyH_done (by kernel_rfl) ?_ _
        refine NoPanic.normal ?_
        go_wp2
        go_ret2
        rw [HD.out]
        exact ⟨v, { b' with vE := v4 }, rfl, HV5.out, (fun i hi hf => (HFIN.out.2.2 i hf).elim (fun h1 => HVF.out i hi h1) (fun h1 => by have := HV2.out.lt i hi; omega)), HCC.out, HFIN.out.1, HC2.out.trans HFIN.out.2.1 HF2.out, fun i hi => (HFIN.out.2.2 i hi).elim (fun h1 => HF2.out i h1) (fun h1 => .inr (Nat.le_trans HC2.out.size h1))⟩
      case ord2 =>
        go_simp
        refine hK.out _ _ LNb.out (fun hH1 => ?_)
        clear hK K hH0
        try simp only [Act.put, List.setIfInBounds_toArray, List.set_cons_zero, List.set_cons_succ]
        refine wpAnyH_ready (rs := [4]) (by kernel_rfl) (by simp) ?_
        refine AllReadyH.cons rfl (fun K hK => ?_) AllReadyH.nil
        go_simp
        refine hK.out _ _ LNb.out (fun hH2 => ?_)
        clear hK K hH1
        try simp only [Act.put, List.setIfInBounds_toArray, List.set_cons_zero, List.set_cons_succ]
        refine wpAnyH_ready (rs := [13]) (by kernel_rfl) (by simp) ?_
        refine AllReadyH.cons rfl (fun K hK => ?_) AllReadyH.nil
        refine stp_appF (some 36) _ _ _ (.tmp 27) (.tmp 35) b'.vE R1.q.E w2.heap.size ⟨od, st, un⟩ rfl rfl HEb.out LE.out HEL.out (fun v4 w4 ho4 hg4 hb4 => ?_)
        have HL4 : Hid (Lies w4 b.c 122 #[.pointer (some ⟨b'.s.s, 0, none⟩), .pointer (some ⟨b'.p.s, 0, none⟩), .pointer (some ⟨b'.d.s, 0, none⟩), .int .u32 (R1.q.f.ep : Int), b'.vL, b'.vE, b'.vM]) := Lib.hid (Lies_same HCb.out (hg4.block b.c HCb.out.lt (fun e => HKC.out e.symm)))
        have LB4 : Hid (Lies w4 w.heap.size 55 #[.int .i64 kd, .int .u32 (e : Int), .int .u32 (ol : Int), .int .u64 (ls : Int), .int .u64 (tk : Int), .int .u32 (od : Int), .int .i64 st, .bool un, .int .i64 cd, .slice A1 ky.length c1, .slice A2 da.length c2]) := Lib.hid (Lies_same LNb.out (hg4.block _ LNb.out.lt (fun e => HKB.out e.symm)))
        have HO4 := Lib.hid ho4
        have HG4 := Lib.hid hg4
        have HB4 := Lib.hid hb4
        have HONE := Lib.hid (OwnF_one ho4)
        clear ho4 hg4 hb4
        refine hK.out _ _ LB4.out (fun hHa => ?_)
        clear hK K hH2
        try simp only [Act.put, List.setIfInBounds_toArray, List.set_cons_zero, List.set_cons_succ]
        refine Fe.any_take 14 37 ?vt15 rfl rfl (by kernel_rfl) (by kernel_rfl) (by kernel_rfl) (fun _ _ _ h => h) (by rfl) ?ht15 hHa ?rt15
        case ht15 => ((intro W hSw); obtain ⟨o_0, o_1, o_2, o_3, o_4, o_5, o_6, o_7, o_8, o_9, o_10⟩ := hSw.cells11; go_simp; (try with_reducible rfl))
        try simp only [Act.put, List.setIfInBounds_toArray, List.set_cons_zero, List.set_cons_succ]
        refine Fe.any_take 15 38 ?vt16 rfl rfl (by kernel_rfl) (by kernel_rfl) (by kernel_rfl) (fun _ _ _ h => h) (by rfl) ?ht16 hHa ?rt16
        case ht16 => ((intro W hSw); obtain ⟨o_0, o_1, o_2, o_3, o_4, o_5, o_6, o_7, o_8, o_9, o_10⟩ := hSw.cells11; go_simp; (try with_reducible rfl))
        try simp only [Act.put, List.setIfInBounds_toArray, List.set_cons_zero, List.set_cons_succ]
        refine wpAnyH_ready (rs := [16]) (by kernel_rfl) (by simp) ?_
        refine AllReadyH.cons rfl (fun K hK => ?_) AllReadyH.nil
        refine St.stp_putC none _ _ _ 68 (.tmp 38) (.tmp 36) b.c 5 122 _ v4 rfl rfl HL4.out (by simp) (by kernel_rfl) HONE.out (fun w5 hp5 => ?_)
        have HFIN := Lib.hid (HA2.out.addE (B0 := w2.heap.size) HBW.out (Nat.le_refl _) HO4.out HG4.out HB4.out (by rw [HCC.out]; exact hp5))
        have LB5 : Hid (Lies w5 w.heap.size 55 #[.int .i64 kd, .int .u32 (e : Int), .int .u32 (ol : Int), .int .u64 (ls : Int), .int .u64 (tk : Int), .int .u32 (od : Int), .int .i64 st, .bool un, .int .i64 cd, .slice A1 ky.length c1, .slice A2 da.length c2]) := Lib.hid (Lies_same LB4.out (hp5.grown.block _ LB4.out.lt (fun e => HNB.out (by injection e))))
        have HV5 : Hid (Own w5 w.heap.size v R1.r) := Lib.hid (Own_same HV2.out fun i hi => HFIN.out.2.1.block i (HV2.out.lt i hi) (HVF.out i hi))
        refine hK.out _ _ LB5.out (fun hHb => ?_)
        clear hK K hHa hHb hp5
        try simp only [Act.put, List.setIfInBounds_toArray, List.set_cons_zero, List.set_cons_succ]
        refine wpAnyH_done (by kernel_rfl) ?_ _
        refine NoPanic.normal ?_
        go_wp2
        go_ret2
        rw [HD.out]
        exact ⟨v, { b' with vE := v4 }, rfl, HV5.out, (fun i hi hf => (HFIN.out.2.2 i hf).elim (fun h1 => HVF.out i hi h1) (fun h1 => by have := HV2.out.lt i hi; omega)), HCC.out, HFIN.out.1, HC2.out.trans HFIN.out.2.1 HF2.out, fun i hi => (HFIN.out.2.2 i hi).elim (fun h1 => HF2.out i h1) (fun h1 => .inr (Nat.le_trans HC2.out.size h1))⟩
    · have HD : Hid (decideS q 1 ⟨kd, e, ol, ls, tk, od, st, un, cd, ky, da⟩ = R1) := Lib.hid (by rw [HD1.out]; unfold effS; rw [if_neg hv1])
      have d1 : (R1.v == 1) = false := by simpa using hv1
      clear hv1
      go_wp2
      go_ret2
      rw [HD.out]
      exact ⟨v, b', rfl, HV2.out, HVF.out, HCC.out, HA2.out, HC2.out, HF2.out⟩
  · have HD := Lib.hid (decide3 q N)
    have HA := Lib.hid (h.alloc (.cells (Fe.evs N (.slice A1 N.key.length c1) (.slice A2 N.data.length c2)) 55))
    have BB := Lib.hid (Fe.below1 w (.cells (Fe.evs N (.slice A1 N.key.length c1) (.slice A2 N.data.length c2)) 55))
    clear h hI hN
    rw [show ((3 : Nat) : Int) = 3 from rfl]
    go_enter Tryz.func66, Tryz.ntmps66
    go_wp2
    go_ret2
    rw [HD.out]
    exact ⟨_, b, rfl, Own.nil _ _, (fun i hi => by cases hi), rfl, HA.out, Chg.of BB.out, fun i hi => .inl hi⟩
  · have HD := Lib.hid (decide4 q N)
    have HA := Lib.hid (h.alloc (.cells (Fe.evs N (.slice A1 N.key.length c1) (.slice A2 N.data.length c2)) 55))
    have BB := Lib.hid (Fe.below1 w (.cells (Fe.evs N (.slice A1 N.key.length c1) (.slice A2 N.data.length c2)) 55))
    clear h hI hN
    rw [show ((4 : Nat) : Int) = 4 from rfl]
    go_enter Tryz.func66, Tryz.ntmps66
    go_wp2
    go_ret2
    rw [HD.out]
    exact ⟨_, b, rfl, Own.nil _ _, (fun i hi => by cases hi), rfl, HA.out, Chg.of BB.out, fun i hi => .inl hi⟩

end Go.Proofs.YtpbclmnhkmcknaaGreat

namespace Go.Proofs.YtpbclmnhkmcknaaGreat
open Go.RowKit
open Fe (Lies Own Bys Reads NF Kx Kp Note)
set_option maxRecDepth 100000
set_option linter.unusedVariables false
set_option linter.unusedSimpArgs false

/-- What the walk leaves behind the store of a whole note. -/
abbrev put11 (w : World) (g : Nat) (a0 a1 a2 a3 a4 a5 a6 a7 a8 a9 a10 : Value) : World := w.setCells g 0 (#[a0, a1, a2, a3, a4, a5, a6, a7, a8, a9, a10] : Array Value).toList
theorem nest11 (w : World) (g : Nat) (a0 a1 a2 a3 a4 a5 a6 a7 a8 a9 a10 : Value) : (((((((((((w.setCell ⟨g, 0, none⟩ a0).setCell ⟨g, 1, none⟩ a1).setCell ⟨g, 2, none⟩ a2).setCell ⟨g, 3, none⟩ a3).setCell ⟨g, 4, none⟩ a4).setCell ⟨g, 5, none⟩ a5).setCell ⟨g, 6, none⟩ a6).setCell ⟨g, 7, none⟩ a7).setCell ⟨g, 8, none⟩ a8).setCell ⟨g, 9, none⟩ a9).setCell ⟨g, 10, none⟩ a10) = put11 w g a0 a1 a2 a3 a4 a5 a6 a7 a8 a9 a10 := rfl
abbrev n11 (w : World) (g : Nat) (a0 a1 a2 a3 a4 a5 a6 a7 a8 a9 a10 : Value) : World := (((((((((((w.setCell ⟨g, 0, none⟩ a0).setCell ⟨g, 1, none⟩ a1).setCell ⟨g, 2, none⟩ a2).setCell ⟨g, 3, none⟩ a3).setCell ⟨g, 4, none⟩ a4).setCell ⟨g, 5, none⟩ a5).setCell ⟨g, 6, none⟩ a6).setCell ⟨g, 7, none⟩ a7).setCell ⟨g, 8, none⟩ a8).setCell ⟨g, 9, none⟩ a9).setCell ⟨g, 10, none⟩ a10)
theorem n11_eq (w : World) (g : Nat) (a0 a1 a2 a3 a4 a5 a6 a7 a8 a9 a10 : Value) : n11 w g a0 a1 a2 a3 a4 a5 a6 a7 a8 a9 a10 = put11 w g a0 a1 a2 a3 a4 a5 a6 a7 a8 a9 a10 := rfl
theorem setCells_other (w : World) (g i : Nat) (hi : i ≠ g) (vs : List Value) (o : Nat) : (w.setCells g o vs).heap[i]? = w.heap[i]? := by
  induction vs generalizing w o with
  | nil => rfl
  | cons v r ih => exact (ih (w.setCell ⟨g, o, none⟩ v) (o + 1)).trans (heap_setCell_other w ⟨g, o, none⟩ i v hi)
theorem setCells_size (w : World) (g : Nat) (vs : List Value) (o : Nat) : (w.setCells g o vs).heap.size = w.heap.size := by
  induction vs generalizing w o with
  | nil => rfl
  | cons v r ih => exact (ih (w.setCell ⟨g, o, none⟩ v) (o + 1)).trans (by simp)
theorem setCells_rest (w : World) (g : Nat) (vs : List Value) (o : Nat) : (w.setCells g o vs).os = w.os ∧ (w.setCells g o vs).tape = w.tape ∧ (w.setCells g o vs).output = w.output := by
  induction vs generalizing w o with
  | nil => exact ⟨rfl, rfl, rfl⟩
  | cons v r ih => exact ih (w.setCell ⟨g, o, none⟩ v) (o + 1)
theorem put11_chg (w : World) (g : Nat) (a0 a1 a2 a3 a4 a5 a6 a7 a8 a9 a10 : Value) : Chg (fun i => i = g) w (put11 w g a0 a1 a2 a3 a4 a5 a6 a7 a8 a9 a10) :=
  ⟨(setCells_rest w g _ 0).1, (setCells_rest w g _ 0).2.1, (setCells_rest w g _ 0).2.2, Nat.le_of_eq (setCells_size w g _ 0).symm, fun i _ hn => setCells_other w g i hn _ 0⟩
theorem Lies_n11 {w : World} {g g' : Nat} {t : TypeId} {cs : Array Value} (h : Lies w g' t cs) (hn : g' ≠ g) (a0 a1 a2 a3 a4 a5 a6 a7 a8 a9 a10 : Value) : Lies (n11 w g a0 a1 a2 a3 a4 a5 a6 a7 a8 a9 a10) g' t cs := by
  rw [n11_eq]; exact (setCells_other w g g' hn _ 0).trans h
theorem Lies_put11 {w : World} {g : Nat} {t : TypeId} {cs : Array Value} (h : Lies w g t cs) (hs : cs.size = 11) (a0 a1 a2 a3 a4 a5 a6 a7 a8 a9 a10 : Value) :
    Lies (put11 w g a0 a1 a2 a3 a4 a5 a6 a7 a8 a9 a10) g t #[a0, a1, a2, a3, a4, a5, a6, a7, a8, a9, a10] := h.puts #[a0, a1, a2, a3, a4, a5, a6, a7, a8, a9, a10] (by rw [hs]; rfl)
theorem ret_note {fn : Func} {R : Ending → World → Prop} {a : Act} {w : World} {p : Tmp} (g : Nat) (cs : Array Value) (h : fn.results = #[.cell p 55]) (hp : a.tmps.getD p undef = .pointer (some ⟨g, 0, none⟩)) (hg : Lies w g 55 cs) (hs : cs.size = 11) (hd : a.defers = [])
    (hR : R (.returned (.agg cs)) w) : bodyPost Tryz.prog fn R .ret a w := Fe.ret_note g 55 cs h hp hg hs hd hR
abbrev NZ : Array Value := #[.int .i64 0, .int .u32 0, .int .u32 0, .int .u64 0, .int .u64 0, .int .u32 0, .int .i64 0, .bool false, .int .i64 0, .slice none 0 0, .slice none 0 0]
/-- Behind a step: the answer, and the crew. -/
def SvPost (w : World) (b : CB) (s : Sv) (e : Ending) (w' : World) : Prop :=
  ∃ b' v, e = .returned (.agg (Fe.evs s.a (.slice none 0 0) v)) ∧ Own w' w.heap.size v s.a.data ∧ (∀ i, v.ownBlock = some i → ¬ b'.foot i) ∧ b'.c = b.c ∧ CAt w' b' s.q ∧ Chg b.foot w w' ∧ ∀ i, b'.foot i → b.foot i ∨ w.heap.size ≤ i
/-- The answer is laid into the result's block. -/
theorem serve_fin {w W : World} {b b' : CB} {s : Sv} {v : Value} {cs : Array Value} (g : Nat) (hL : Lies W g 55 cs) (hg : w.heap.size ≤ g) (hO : Own W w.heap.size v s.a.data) (hF : ∀ i, v.ownBlock = some i → ¬ b'.foot i) (hc : b'.c = b.c) (hA : CAt W b' s.q) (hC : Chg b.foot w W) (hf : ∀ i, b'.foot i → b.foot i ∨ w.heap.size ≤ i)
    (hgf : ¬ b'.foot g) (a0 a1 a2 a3 a4 a5 a6 a7 a8 a9 a10 : Value) (hv : (#[a0, a1, a2, a3, a4, a5, a6, a7, a8, a9, a10] : Array Value) = Fe.evs s.a (.slice none 0 0) v) :
    SvPost w b s (.returned (.agg #[a0, a1, a2, a3, a4, a5, a6, a7, a8, a9, a10])) (put11 W g a0 a1 a2 a3 a4 a5 a6 a7 a8 a9 a10) := by
  have hX := put11_chg W g a0 a1 a2 a3 a4 a5 a6 a7 a8 a9 a10
  refine ⟨b', v, by rw [hv], Own_same hO fun i hi => hX.block i (hO.lt i hi) (fun e => ?_), hF, hc, hA.chg hX (fun i hi e => hgf (by rw [← show i = g from e]; exact hi)), hC.trans hX (fun i hi => .inr (by rw [show i = g from hi]; exact hg)), hf⟩
  exact (Kb.row hO.1 hi).ne (Kb.of hL) (by decide) e
theorem Lies_drew {w : World} {g : Nat} {t : TypeId} {cs : Array Value} (h : Lies w g t cs) : Lies w.drew g t cs := h
theorem SvPost.drew {w W : World} {b : CB} {s : Sv} {e : Ending} (h : SvPost w b s e W) : SvPost w b s e W.drew := by
  obtain ⟨b', v, h1, h2, h3, h4, h5, h6, h7⟩ := h
  exact ⟨b', v, h1, h2.drew, h3, h4, h5.drew, h6.drew, h7⟩
set_option maxHeartbeats 1000000 in
theorem no_any {b : CB} {q : Cq} (code : Int) (w : World) (h : CAt w b q) :
    Calls Tryz.prog 63 #[.pointer (some ⟨b.c, 0, none⟩), .int .i64 code] w fun e w' => e = .returned (.agg (Fe.evs (noN q.f.ep code) (.slice none 0 0) (.slice none 0 0))) ∧ Below w.heap.size w w' := by
  have HA := Lib.hid (h.alloc (.cells NZ 55))
  have LR := Lib.hid (Lies.made w 55 NZ)
  have BB := Lib.hid (Fe.below1 w (.cells NZ 55))
  obtain ⟨c0, c1, c2, c3, c4, c5, c6⟩ := Lies_cells7 HA.out.c
  obtain ⟨d0, d1, d2, d3, d4, d5, d6, d7, d8, d9, d10⟩ := LR.out.cells11
  obtain ⟨f0, f1, f2, f3, f4, f5, f6, f7, f8, f9, f10⟩ := LR.out.free11
  clear h
  go_enter Tryz.func63, Tryz.ntmps63
  go_wp2
  exact ret_note w.heap.size _ rfl rfl (Lies.made w 55 _) rfl rfl ⟨rfl, Fe.below1 w _⟩
set_option maxHeartbeats 1000000 in
theorem done_any (kd : Int) (e ol ls tk od : Nat) (st : Int) (un : Bool) (cd : Int) (K D : Value) (v : Int) (A : Option Addr) (n c : Nat) (w : World) :
    Calls Tryz.prog 65 #[.agg #[.int .i64 kd, .int .u32 (e : Int), .int .u32 (ol : Int), .int .u64 (ls : Int), .int .u64 (tk : Int), .int .u32 (od : Int), .int .i64 st, .bool un, .int .i64 cd, K, D], .int .i64 v, .slice A n c] w fun x w' =>
      x = .returned (.agg #[.int .i64 8, .int .u32 (e : Int), .int .u32 0, .int .u64 0, .int .u64 0, .int .u32 (od : Int), .int .i64 st, .bool un, .int .i64 v, .slice none 0 0, .slice A n c]) ∧ Below w.heap.size w w' := by
  have LN := Lib.hid ((Lies.made w 55 #[.int .i64 kd, .int .u32 (e : Int), .int .u32 (ol : Int), .int .u64 (ls : Int), .int .u64 (tk : Int), .int .u32 (od : Int), .int .i64 st, .bool un, .int .i64 cd, K, D]).alloc (.cells NZ 55))
  have LR := Lib.hid (Lies.made2 w (.cells #[.int .i64 kd, .int .u32 (e : Int), .int .u32 (ol : Int), .int .u64 (ls : Int), .int .u64 (tk : Int), .int .u32 (od : Int), .int .i64 st, .bool un, .int .i64 cd, K, D] 55) 55 NZ)
  have BB := Lib.hid (Fe.below2 w (.cells #[.int .i64 kd, .int .u32 (e : Int), .int .u32 (ol : Int), .int .u64 (ls : Int), .int .u64 (tk : Int), .int .u32 (od : Int), .int .i64 st, .bool un, .int .i64 cd, K, D] 55) (.cells NZ 55))
  obtain ⟨c0, c1, c2, c3, c4, c5, c6, c7, c8, c9, c10⟩ := LN.out.cells11
  obtain ⟨d0, d1, d2, d3, d4, d5, d6, d7, d8, d9, d10⟩ := LR.out.cells11
  obtain ⟨f0, f1, f2, f3, f4, f5, f6, f7, f8, f9, f10⟩ := LR.out.free11
  go_enter Tryz.func65, Tryz.ntmps65
  go_wp2
  exact ret_note (w.heap.size + 1) _ rfl rfl (Lies.made2 w _ 55 _) rfl rfl ⟨rfl, Fe.below2 w _ _⟩
/-- What Ask can say. -/
theorem ask_cases (ep n : Nat) (T : Nat → Kp) (N : Note) :
    Fe.askS ep n T N = ⟨0, Fe.kz, 2⟩ ∨ Fe.askS ep n T N = ⟨0, Fe.kz, 72⟩ ∨ Fe.askS ep n T N = ⟨0, Fe.kz, 80⟩ ∨
    (∃ k, Fe.askS ep n T N = ⟨2, k, 0⟩ ∧ Fe.okB n T = true ∧ Fe.reqB N = true ∧ ¬ N.epoch < ep) ∨
    (∃ a, (a = 1 ∨ a = 3 ∨ a = 4) ∧ Fe.askS ep n T N = ⟨a, Fe.kz, 0⟩ ∧ Fe.okB n T = true ∧ Fe.reqB N = true) := by
  unfold Fe.askS
  split
  · rename_i h
    split
    · exact .inr (.inl rfl)
    · split
      · split
        · exact .inr (.inr (.inr (.inl ⟨_, rfl, h.1, h.2, by assumption⟩)))
        · exact .inr (.inr (.inl rfl))
      · refine .inr (.inr (.inr (.inr ⟨_, ?_, rfl, h.1, h.2⟩)))
        unfold Fe.actN
        split
        · exact .inr (.inl rfl)
        · split
          · exact .inr (.inr rfl)
          · exact .inl rfl
  · exact .inl rfl

end Go.Proofs.YtpbclmnhkmcknaaGreat
