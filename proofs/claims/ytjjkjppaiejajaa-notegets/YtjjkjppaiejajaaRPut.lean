/-
  The contract of the document's Put: for every note.
-/
import Derived.Test.YtjjkjppaiejajaaRFl
import Derived.Test.YtjjkjppaiejajaaRegLaw
namespace Go.Proofs.Ytjjkjppaiejajaa
open Go.RowKit
set_option linter.unusedVariables false
set_option linter.unusedSimpArgs false

set_option maxRecDepth 100000 in
set_option maxHeartbeats 1000000 in
theorem rput_bad (e : Note) (A1 A2 : Option Addr) (c1 c2 : Nat) (w : World) (hb : Ent.Bnd e) (hok : ¬ Ent.ok e = true) :
    Calls Try.prog 17 #[.agg (evs e (.slice A1 e.key.length c1) (.slice A2 e.data.length c2))] w (PutPost e w) := by
  have C1 := fun W => Lib.hid (rcheck_any e A1 A2 c1 c2 W hb)
  have hn : chkN e = 50 := by unfold chkN; rw [if_neg hok]
  have hp : putB e = [] := by unfold putB; rw [if_neg hok]
  unfold ChkPost at C1
  rw [hn] at C1
  unfold PutPost
  rw [hn, hp]
  clear hn hp
  generalize Value.slice A1 e.key.length c1 = K at *
  generalize Value.slice A2 e.data.length c2 = D at *
  go_enter Try.func17, Try.ntmps17
  go_wp2_with fail
  with_reducible refine (C1 _).out.mono ?_
  rintro x w1 ⟨rfl, hb1⟩
  go_wp2
  go_ret2
  exact ⟨_, rfl, Own.nil _ _, (below1 w _).trans (hb1.mono (by simp))⟩

def RpuR (w : World) (e : Note) (K D : Value) (kn : Nat) (s : List Nat) (n : Nat) (l i : Value) (wr : World) : Prop :=
  ∃ j : Nat, j ≤ n ∧ i = .int .i64 (j : Nat) ∧ Lies wr w.heap.size 26 (evs e K D) ∧ Below w.heap.size w wr ∧ FRow wr w.heap.size l (1 + j) ((fldsN e K D kn (s.take j)).flatMap Fld.cells)

set_option maxRecDepth 100000 in
set_option maxHeartbeats 4000000 in
theorem rput_good (e : Note) (A1 A2 : Option Addr) (c1 c2 : Nat) (w : World) (hV : EntV w e A1 A2 c1 c2) (hok : Ent.ok e = true) :
    Calls Try.prog 17 #[.agg (evs e (.slice A1 e.key.length c1) (.slice A2 e.data.length c2))] w (PutPost e w) := by
  have hk := (Ent.ok_iff e).1 hok
  have C1 := Lib.hid (fun W => rcheck_any e A1 A2 c1 c2 W hV.b)
  have hn : chkN e = 0 := by unfold chkN; rw [if_pos hok]
  have hp : putB e = Ent.enc e := by unfold putB; rw [if_pos hok]
  unfold ChkPost at C1
  rw [hn] at C1
  unfold PutPost
  rw [hn, hp]
  have k1 := hk.k1
  have k13 := hk.k13
  obtain ⟨kn, hkn⟩ : ∃ n : Nat, e.kind = n := ⟨e.kind.toNat, by omega⟩
  have hkt : e.kind.toNat = kn := by omega
  have hk8 : kn < 256 := by omega
  have hx : IntKind.u64.wrap ((kn : Nat) : Int) = (kn : Int) := by rw [IntKind.wrap_u64]; omega
  have HSUB := Lib.hid (Ent.lets_sub e.kind)
  have henc : Ent.enc e = (fldsN e (.slice A1 e.key.length c1) (.slice A2 e.data.length c2) kn (Ent.lets e.kind)).flatMap Fld.enc := by
    rw [fldsN_enc _ _ _ _ _ HSUB.out]
    unfold Ent.enc
    rw [hkt]
  have HENC := Lib.hid henc
  have CN := Lib.hid (fun W => rnames_any e.kind W)
  unfold RNamesPost at CN
  have CP := Lib.hid (fun c hc W => part_any e A1 A2 c1 c2 c hc W hV.b hk.i)
  unfold PartPost fcs at CP
  have HMAY := Lib.hid (fun W (h : EntV W e A1 A2 c1 c2) => fldsN_may h hk.i kn hk8 (Ent.lets e.kind))
  have hsz := str_size (Ent.lets e.kind)
  have HGET := Lib.hid (str_get (Ent.lets e.kind) (fun c hc => Ent.alpha_small c (Ent.lets_sub e.kind c hc)))
  have hn6 := Ent.lets_len e.kind
  generalize str (Ent.lets e.kind) = S at *
  generalize Ent.lets e.kind = s at *
  generalize hn0 : s.length = n at *
  have HN := Lib.hid hn0
  obtain ⟨n1, hn1⟩ : ∃ n, e.key.length = n := ⟨_, rfl⟩
  obtain ⟨n2, hn2⟩ : ∃ n, e.data.length = n := ⟨_, rfl⟩
  simp only [hn1, hn2] at C1 CP HMAY HENC
  rw [hn1, hn2]
  have HV := Lib.hid hV
  have HKN := Lib.hid hkn
  have b0 := below1 w (.cells (evs e (.slice A1 n1 c1) (.slice A2 n2 c2)) 26)
  have L0 := Lib.hid (Lies.made w 26 (evs e (.slice A1 n1 c1) (.slice A2 n2 c2)))
  clear hn hp hn0 hkn hkt hk k1 k13 henc hV hok hn1 hn2
  go_enter Try.func17, Try.ntmps17
  go_wp2_with fail
  with_reducible refine (C1.out _).mono ?_
  rintro x w1 ⟨rfl, hb1⟩
  have L1 := Lib.hid (L0.out.below hb1 L0.out.lt)
  have BB1 := Lib.hid (b0.trans (hb1.mono b0.size))
  obtain ⟨e0, _⟩ := L1.out.cellsE
  clear hb1 b0 L0 C1
  go_wp2_with fail
  with_reducible refine (CN.out _).mono ?_
  rintro x w2 ⟨rfl, hb2⟩
  have L2 := Lib.hid (L1.out.below hb2 L1.out.lt)
  have BB2 := Lib.hid (BB1.out.trans (hb2.mono BB1.out.size))
  clear e0 hb2 L1 BB1 CN
  obtain ⟨e0, _⟩ := L2.out.cellsE
  rw [HKN.out] at e0
  have L3 := Lib.hid (L2.out.alloc (.cells #[.int .i64 1, .int .u64 (kn : Nat), .slice none 0 0] 60))
  have BB3 := Lib.hid (BB2.out.alloc BB2.out.size (.cells #[.int .i64 1, .int .u64 (kn : Nat), .slice none 0 0] 60))
  have hfr := frow_made (Lies.made w2 60 #[.int .i64 1, .int .u64 (kn : Nat), .slice none 0 0]) (B := w.heap.size) (n := 1) BB2.out.size rfl (by omega)
  have HFR := Lib.hid hfr
  clear hfr
  go_wp2_with fail
  clear e0
  go_loopw [6, 7] (RpuR w e (.slice A1 n1 c1) (.slice A2 n2 c2) kn s n) (fun _ i _ => n - (intOf i).toNat)
  case atStart => exact ⟨0, by omega, rfl, L3.out, BB3.out, HFR.out⟩
  case round =>
    obtain ⟨j, hj, rfl, hL, hbel, hrow⟩ := hrel
    have HL := Lib.hid hL
    have HBE := Lib.hid hbel
    obtain ⟨Al, cl, rfl⟩ := frow_slice hrow
    have HROW := Lib.hid hrow
    clear hL hbel hrow L2 BB2 L3 BB3 HFR
    by_cases hp : j < n
    · have hj2 : (j : Int) < (n : Int) := by omega
      have hvp := HGET.out j
      have hca := HSUB.out _ (getD_mem s j (by rw [HN.out]; exact hp))
      have htk := take_one s j (by rw [HN.out]; exact hp)
      obtain ⟨c, hcc⟩ : ∃ c, s.getD j 0 = c := ⟨_, rfl⟩
      rw [hcc] at hvp hca htk
      have hsn := fldsN_snoc e (.slice A1 n1 c1) (.slice A2 n2 c2) kn (s.take j) c
      rw [← htk] at hsn
      have D1 := Lib.hid (CP.out c hca)
      generalize Ent.isZ c e = r2 at *
      obtain ⟨AT, mT, dT, hT⟩ := fldOf_T e A1 A2 n1 c1 n2 c2 c
      have hcl : (fldOf e (.slice A1 n1 c1) (.slice A2 n2 c2) c).cells = [.int .i64 ((fldOf e (.slice A1 n1 c1) (.slice A2 n2 c2) c).size : Nat), .int .u64 ((fldOf e (.slice A1 n1 c1) (.slice A2 n2 c2) c).n : Nat), .slice AT mT dT] := by unfold Fld.cells; rw [hT]
      rw [hcl] at hsn
      rw [hT] at D1
      generalize (fldOf e (.slice A1 n1 c1) (.slice A2 n2 c2) c).size = fs at *
      generalize (fldOf e (.slice A1 n1 c1) (.slice A2 n2 c2) c).n = fn at *
      have HSN := Lib.hid hsn
      have HK := Lib.hid (fun W (hb : Below wr.heap.size wr W) => Lies.below HL.out hb (Lies.lt HL.out))
      clear hT hcl hcc htk hsn
      obtain ⟨e0, e1, e2, e3, e4, e5, e6, e7, e8, e9, e10⟩ := HL.out.cellsE
      have hne3 : w.heap.size ≠ wr.heap.size := by have := HL.out.lt; omega
      go_wp2_with fail
      refine wp_region_noPanic ?_
      refine wp_region_held_drew (S := fun W => W.cell? ⟨w.heap.size, 0, none⟩ = some (.int .i64 e.kind) ∧ W.cell? ⟨w.heap.size, 1, none⟩ = some (.int .u32 (e.epoch : Nat)) ∧ W.cell? ⟨w.heap.size, 2, none⟩ = some (.int .u32 (e.old : Nat)) ∧ W.cell? ⟨w.heap.size, 3, none⟩ = some (.int .u64 (e.lsn : Nat)) ∧ W.cell? ⟨w.heap.size, 4, none⟩ = some (.int .u64 (e.tick : Nat)) ∧ W.cell? ⟨w.heap.size, 5, none⟩ = some (.int .u32 (e.order : Nat)) ∧ W.cell? ⟨w.heap.size, 6, none⟩ = some (.int .i64 e.step) ∧ W.cell? ⟨w.heap.size, 7, none⟩ = some (.bool e.undo) ∧ W.cell? ⟨w.heap.size, 8, none⟩ = some (.int .i64 e.code) ∧ W.cell? ⟨w.heap.size, 9, none⟩ = some (.slice A1 n1 c1) ∧ W.cell? ⟨w.heap.size, 10, none⟩ = some (.slice A2 n2 c2)) (by kernel_rfl) (⟨(HL.out).cell 0, (HL.out).cell 1, (HL.out).cell 2, (HL.out).cell 3, (HL.out).cell 4, (HL.out).cell 5, (HL.out).cell 6, (HL.out).cell 7, (HL.out).cell 8, (HL.out).cell 9, (HL.out).cell 10⟩) (fun hH => ?_)
      refine any_take 0 30 ?va0 rfl rfl (by kernel_rfl) (by kernel_rfl) (by kernel_rfl) (fun _ _ _ h => h) (by rfl) ?hya0 hH ?resta0
      case hya0 => ((intro W hSw); go_simp; (try with_reducible rfl))
      try simp only [Act.put, List.setIfInBounds_toArray, List.set_cons_zero, List.set_cons_succ]
      refine any_take 1 31 ?va1 rfl rfl (by kernel_rfl) (by kernel_rfl) (by kernel_rfl) (fun _ _ _ h => h) (by rfl) ?hya1 hH ?resta1
      case hya1 => ((intro W hSw); go_simp; (try with_reducible rfl))
      try simp only [Act.put, List.setIfInBounds_toArray, List.set_cons_zero, List.set_cons_succ]
      refine any_take 2 32 ?va2 rfl rfl (by kernel_rfl) (by kernel_rfl) (by kernel_rfl) (fun _ _ _ h => h) (by rfl) ?hya2 hH ?resta2
      case hya2 => ((intro W hSw); go_simp; (try with_reducible rfl))
      try simp only [Act.put, List.setIfInBounds_toArray, List.set_cons_zero, List.set_cons_succ]
      refine any_take 3 33 ?va3 rfl rfl (by kernel_rfl) (by kernel_rfl) (by kernel_rfl) (fun _ _ _ h => h) (by rfl) ?hya3 hH ?resta3
      case hya3 => ((intro W hSw); go_simp; (try with_reducible rfl))
      try simp only [Act.put, List.setIfInBounds_toArray, List.set_cons_zero, List.set_cons_succ]
      refine wpAnyH_ready (rs := [4, 8]) (by kernel_rfl) (by simp) ?_
      refine AllReadyH.cons rfl (fun K hK => ?_) (AllReadyH.cons rfl (fun K hK => ?_) AllReadyH.nil)
      · go_simp
        go_at_call 35
        with_reducible refine (D1.out _).mono ?_
        rintro x w2 ⟨rfl, hb2⟩
        have hB2 : Below wr.heap.size wr w2 := (Below.refl _ wr).drew.trans (hb2.mono (Nat.le_refl _))
        have HB2 := Lib.hid hB2
        clear hb2 hB2
        refine hK.out _ _ (⟨(HK.out _ HB2.out).cell 0, (HK.out _ HB2.out).cell 1, (HK.out _ HB2.out).cell 2, (HK.out _ HB2.out).cell 3, (HK.out _ HB2.out).cell 4, (HK.out _ HB2.out).cell 5, (HK.out _ HB2.out).cell 6, (HK.out _ HB2.out).cell 7, (HK.out _ HB2.out).cell 8, (HK.out _ HB2.out).cell 9, (HK.out _ HB2.out).cell 10⟩) (fun hH2 => ?_)
        clear hK K hH
        try simp only [Act.put, List.setIfInBounds_toArray, List.set_cons_zero, List.set_cons_succ]
        refine any_take 5 29 ?vaA5 rfl rfl (by kernel_rfl) (by kernel_rfl) (by kernel_rfl) (fun _ _ _ h => h) (by rfl) ?hyaA5 hH2 ?restaA5
        case hyaA5 => ((intro W hSw); go_simp; (try with_reducible rfl))
        try simp only [Act.put, List.setIfInBounds_toArray, List.set_cons_zero, List.set_cons_succ]
        refine any_take 6 35 ?vaA6 rfl rfl (by kernel_rfl) (by kernel_rfl) (by kernel_rfl) (fun _ _ _ h => h) (by rfl) ?hyaA6 hH2 ?restaA6
        case hyaA6 => ((intro W hSw); go_simp; (try with_reducible rfl))
        try simp only [Act.put, List.setIfInBounds_toArray, List.set_cons_zero, List.set_cons_succ]
        refine any_take 7 36 ?vaA7 rfl rfl (by kernel_rfl) (by kernel_rfl) (by kernel_rfl) (fun _ _ _ h => h) (by rfl) ?hyaA7 hH2 ?restaA7
        case hyaA7 => ((intro W hSw); go_simp; (try with_reducible rfl))
        try simp only [Act.put, List.setIfInBounds_toArray, List.set_cons_zero, List.set_cons_succ]
        refine wpAnyH_ready (rs := [8]) (by kernel_rfl) (by simp) ?_
        refine AllReadyH.cons rfl (fun K hK => ?_) AllReadyH.nil
        go_simp
        refine hK.out _ _ (⟨((HK.out _ HB2.out).alloc _).cell 0, ((HK.out _ HB2.out).alloc _).cell 1, ((HK.out _ HB2.out).alloc _).cell 2, ((HK.out _ HB2.out).alloc _).cell 3, ((HK.out _ HB2.out).alloc _).cell 4, ((HK.out _ HB2.out).alloc _).cell 5, ((HK.out _ HB2.out).alloc _).cell 6, ((HK.out _ HB2.out).alloc _).cell 7, ((HK.out _ HB2.out).alloc _).cell 8, ((HK.out _ HB2.out).alloc _).cell 9, ((HK.out _ HB2.out).alloc _).cell 10⟩) (fun hH3 => ?_)
        clear hK K hH2
        try simp only [Act.put, List.setIfInBounds_toArray, List.set_cons_zero, List.set_cons_succ]
        refine wpAnyH_ready (rs := [9]) (by kernel_rfl) (by simp) ?_
        refine AllReadyH.cons rfl (fun K hK => ?_) AllReadyH.nil
        go_simp
        refine hK.out _ _ (⟨((HK.out _ HB2.out).alloc _).cell 0, ((HK.out _ HB2.out).alloc _).cell 1, ((HK.out _ HB2.out).alloc _).cell 2, ((HK.out _ HB2.out).alloc _).cell 3, ((HK.out _ HB2.out).alloc _).cell 4, ((HK.out _ HB2.out).alloc _).cell 5, ((HK.out _ HB2.out).alloc _).cell 6, ((HK.out _ HB2.out).alloc _).cell 7, ((HK.out _ HB2.out).alloc _).cell 8, ((HK.out _ HB2.out).alloc _).cell 9, ((HK.out _ HB2.out).alloc _).cell 10⟩) (fun hH4 => ?_)
        clear hK K hH3
        try simp only [Act.put, List.setIfInBounds_toArray, List.set_cons_zero, List.set_cons_succ]
        refine any_take 10 9 ?vaA10 rfl rfl (by kernel_rfl) (by kernel_rfl) (by kernel_rfl) (fun _ _ _ h => h) (by rfl) ?hyaA10 hH4 ?restaA10
        case hyaA10 => ((intro W hSw); go_simp; (try with_reducible rfl))
        try simp only [Act.put, List.setIfInBounds_toArray, List.set_cons_zero, List.set_cons_succ]
        refine wpAnyH_done (by kernel_rfl) ?_ _
        refine NoPanic.normal ?_
        clear hH4
        have HL3 := Lib.hid ((HK.out _ HB2.out).alloc (.cells #[.int .i64 (fs : Nat), .int .u64 (fn : Nat), .slice AT mT dT] 60))
        have HB3 := Lib.hid (HB2.out.alloc HB2.out.size (.cells #[.int .i64 (fs : Nat), .int .u64 (fn : Nat), .slice AT mT dT] 60))
        obtain ⟨q3, hq3⟩ : ∃ q, w2.heap.size = q := ⟨_, rfl⟩
        have hF3 : Lies (w2.alloc (.cells #[.int .i64 (fs : Nat), .int .u64 (fn : Nat), .slice AT mT dT] 60)) q3 60 #[.int .i64 (fs : Nat), .int .u64 (fn : Nat), .slice AT mT dT] := by rw [← hq3]; exact Lies.made w2 60 _
        have HF3 := Lib.hid hF3
        clear hF3
        have hq4 : wr.heap.size ≤ q3 := by rw [← hq3]; exact HB2.out.size
        generalize hW3 : w2.alloc (.cells #[.int .i64 (fs : Nat), .int .u64 (fn : Nat), .slice AT mT dT] 60) = W3 at *
        clear hW3 HB2
        rw [hq3]
        clear e0 e1 e2 e3 e4 e5 e6 e7 e8 e9 e10 hq3
        have g0 : W3.cell? ⟨q3, 0, none⟩ = some (.int .i64 (fs : Nat)) := HF3.out.cell 0
        have g1 : W3.cell? ⟨q3, 1, none⟩ = some (.int .u64 (fn : Nat)) := HF3.out.cell 1
        have g2 : W3.cell? ⟨q3, 2, none⟩ = some (.slice AT mT dT) := HF3.out.cell 2
        have HROW3 := Lib.hid (frow_below HROW.out HB3.out)
        have HB5 := Lib.hid (HBE.out.trans (HB3.out.mono HBE.out.size))
        have hs5 := HB5.out.size
        go_wp2_with (first
          | ((with_reducible refine wpl_appendF (some 40) _ _ _ (.tmp 37) (.tmp 39) w.heap.size (.slice Al (1 + j) cl) (1 + j) ((fldsN e (.slice A1 n1 c1) (.slice A2 n2 c2) kn (s.take j)).flatMap Fld.cells) W3.heap.size 1 #[.int .i64 (fs : Nat), .int .u64 (fn : Nat), .slice AT mT dT] ?hs ?hx (frow_alloc HROW3.out _) (Lies.made W3 60 _) ?hc ?ho ?hm ?hz ?_); (case hs => rfl); (case hx => rfl); (case hc => rfl); (case ho => (intro u hu; simp at hu; rcases hu with rfl | rfl | rfl <;> rfl)); (case hm => omega); (case hz => exact Nat.le_trans hs5 (by simp)); (intro v' w' ho hg); (have HO := Lib.hid ho); (have HG := Lib.hid hg); (obtain ⟨A9, c9, hv9⟩ := frow_slice ho); (subst hv9); (clear ho hg)))
        go_roundw
        case rel =>
          refine ⟨j + 1, by omega, by go_num, (HL3.out.alloc (.cells #[.int .i64 (fs : Nat), .int .u64 (fn : Nat), .slice AT mT dT] 60)).grown HG.out (frow_ne (frow_alloc HROW3.out (.cells #[.int .i64 (fs : Nat), .int .u64 (fn : Nat), .slice AT mT dT] 60)) (HL3.out.alloc (.cells #[.int .i64 (fs : Nat), .int .u64 (fn : Nat), .slice AT mT dT] 60)) (by decide)), (HB5.out.alloc hs5 (.cells #[.int .i64 (fs : Nat), .int .u64 (fn : Nat), .slice AT mT dT] 60)).grown HG.out (Nat.le_trans hs5 (by simp)) (frow_block (frow_alloc HROW3.out (.cells #[.int .i64 (fs : Nat), .int .u64 (fn : Nat), .slice AT mT dT] 60))), ?_⟩
          have h9 := HO.out
          rw [HSN.out]
          exact h9
        case measure => simp [intOf]; omega
      · go_simp
        refine hK.out _ _ (⟨(HL.out.alloc _).cell 0, (HL.out.alloc _).cell 1, (HL.out.alloc _).cell 2, (HL.out.alloc _).cell 3, (HL.out.alloc _).cell 4, (HL.out.alloc _).cell 5, (HL.out.alloc _).cell 6, (HL.out.alloc _).cell 7, (HL.out.alloc _).cell 8, (HL.out.alloc _).cell 9, (HL.out.alloc _).cell 10⟩) (fun hH2 => ?_)
        clear hK K hH
        try simp only [Act.put, List.setIfInBounds_toArray, List.set_cons_zero, List.set_cons_succ]
        refine wpAnyH_ready (rs := [4]) (by kernel_rfl) (by simp) ?_
        refine AllReadyH.cons rfl (fun K hK => ?_) AllReadyH.nil
        go_simp
        go_at_call 35
        with_reducible refine (D1.out (World.drew (World.alloc wr (.cells #[.int .i64 0, .int .u64 0, .slice none 0 0] 60)))).mono ?_
        rintro x w2 ⟨rfl, hb2⟩
        have hB2 : Below wr.heap.size wr w2 := (below1 wr _).drew.trans (hb2.mono (by simp))
        have HB2 := Lib.hid hB2
        have Lz : Lies w2 wr.heap.size 60 #[.int .i64 0, .int .u64 0, .slice none 0 0] := Lies.below (w := World.drew (World.alloc wr (.cells #[.int .i64 0, .int .u64 0, .slice none 0 0] 60))) (Lies.made wr 60 _) hb2 (by simp)
        have z0 := Lz.cell 0
        have z1 := Lz.cell 1
        have z2 := Lz.cell 2
        have zf := Lz.free
        have HLZ := Lib.hid Lz
        clear hb2 hB2 Lz
        refine hK.out _ _ (⟨(HK.out _ HB2.out).cell 0, (HK.out _ HB2.out).cell 1, (HK.out _ HB2.out).cell 2, (HK.out _ HB2.out).cell 3, (HK.out _ HB2.out).cell 4, (HK.out _ HB2.out).cell 5, (HK.out _ HB2.out).cell 6, (HK.out _ HB2.out).cell 7, (HK.out _ HB2.out).cell 8, (HK.out _ HB2.out).cell 9, (HK.out _ HB2.out).cell 10⟩) (fun hH3 => ?_)
        clear hK K hH2
        try simp only [Act.put, List.setIfInBounds_toArray, List.set_cons_zero, List.set_cons_succ]
        refine any_take 5 29 ?vaB5 rfl rfl (by kernel_rfl) (by kernel_rfl) (by kernel_rfl) (fun _ _ _ h => h) (by rfl) ?hyaB5 hH3 ?restaB5
        case hyaB5 => ((intro W hSw); go_simp; (try with_reducible rfl))
        try simp only [Act.put, List.setIfInBounds_toArray, List.set_cons_zero, List.set_cons_succ]
        refine any_take 6 35 ?vaB6 rfl rfl (by kernel_rfl) (by kernel_rfl) (by kernel_rfl) (fun _ _ _ h => h) (by rfl) ?hyaB6 hH3 ?restaB6
        case hyaB6 => ((intro W hSw); go_simp; (try with_reducible rfl))
        try simp only [Act.put, List.setIfInBounds_toArray, List.set_cons_zero, List.set_cons_succ]
        refine any_take 7 36 ?vaB7 rfl rfl (by kernel_rfl) (by kernel_rfl) (by kernel_rfl) (fun _ _ _ h => h) (by rfl) ?hyaB7 hH3 ?restaB7
        case hyaB7 => ((intro W hSw); go_simp; (try with_reducible rfl))
        try simp only [Act.put, List.setIfInBounds_toArray, List.set_cons_zero, List.set_cons_succ]
        refine wpAnyH_ready (rs := [9]) (by kernel_rfl) (by simp) ?_
        refine AllReadyH.cons rfl (fun K hK => ?_) AllReadyH.nil
        go_simp
        refine hK.out _ _ (⟨(((((HK.out _ HB2.out).other (a := ⟨wr.heap.size, 0, none⟩) hne3 _).other (a := ⟨wr.heap.size, 1, none⟩) hne3 _).other (a := ⟨wr.heap.size, 2, none⟩) hne3 _)).cell 0, (((((HK.out _ HB2.out).other (a := ⟨wr.heap.size, 0, none⟩) hne3 _).other (a := ⟨wr.heap.size, 1, none⟩) hne3 _).other (a := ⟨wr.heap.size, 2, none⟩) hne3 _)).cell 1, (((((HK.out _ HB2.out).other (a := ⟨wr.heap.size, 0, none⟩) hne3 _).other (a := ⟨wr.heap.size, 1, none⟩) hne3 _).other (a := ⟨wr.heap.size, 2, none⟩) hne3 _)).cell 2, (((((HK.out _ HB2.out).other (a := ⟨wr.heap.size, 0, none⟩) hne3 _).other (a := ⟨wr.heap.size, 1, none⟩) hne3 _).other (a := ⟨wr.heap.size, 2, none⟩) hne3 _)).cell 3, (((((HK.out _ HB2.out).other (a := ⟨wr.heap.size, 0, none⟩) hne3 _).other (a := ⟨wr.heap.size, 1, none⟩) hne3 _).other (a := ⟨wr.heap.size, 2, none⟩) hne3 _)).cell 4, (((((HK.out _ HB2.out).other (a := ⟨wr.heap.size, 0, none⟩) hne3 _).other (a := ⟨wr.heap.size, 1, none⟩) hne3 _).other (a := ⟨wr.heap.size, 2, none⟩) hne3 _)).cell 5, (((((HK.out _ HB2.out).other (a := ⟨wr.heap.size, 0, none⟩) hne3 _).other (a := ⟨wr.heap.size, 1, none⟩) hne3 _).other (a := ⟨wr.heap.size, 2, none⟩) hne3 _)).cell 6, (((((HK.out _ HB2.out).other (a := ⟨wr.heap.size, 0, none⟩) hne3 _).other (a := ⟨wr.heap.size, 1, none⟩) hne3 _).other (a := ⟨wr.heap.size, 2, none⟩) hne3 _)).cell 7, (((((HK.out _ HB2.out).other (a := ⟨wr.heap.size, 0, none⟩) hne3 _).other (a := ⟨wr.heap.size, 1, none⟩) hne3 _).other (a := ⟨wr.heap.size, 2, none⟩) hne3 _)).cell 8, (((((HK.out _ HB2.out).other (a := ⟨wr.heap.size, 0, none⟩) hne3 _).other (a := ⟨wr.heap.size, 1, none⟩) hne3 _).other (a := ⟨wr.heap.size, 2, none⟩) hne3 _)).cell 9, (((((HK.out _ HB2.out).other (a := ⟨wr.heap.size, 0, none⟩) hne3 _).other (a := ⟨wr.heap.size, 1, none⟩) hne3 _).other (a := ⟨wr.heap.size, 2, none⟩) hne3 _)).cell 10⟩) (fun hH4 => ?_)
        clear hK K hH3
        try simp only [Act.put, List.setIfInBounds_toArray, List.set_cons_zero, List.set_cons_succ]
        refine any_take 10 9 ?vaB10 rfl rfl (by kernel_rfl) (by kernel_rfl) (by kernel_rfl) (fun _ _ _ h => h) (by rfl) ?hyaB10 hH4 ?restaB10
        case hyaB10 => ((intro W hSw); go_simp; (try with_reducible rfl))
        try simp only [Act.put, List.setIfInBounds_toArray, List.set_cons_zero, List.set_cons_succ]
        refine wpAnyH_done (by kernel_rfl) ?_ _
        refine NoPanic.normal ?_
        clear hH4
        have hL3 : Lies (((w2.setCell ⟨wr.heap.size, 0, none⟩ (.int .i64 (fs : Nat))).setCell ⟨wr.heap.size, 1, none⟩ (.int .u64 (fn : Nat))).setCell ⟨wr.heap.size, 2, none⟩ (.slice AT mT dT)) w.heap.size 26 (evs e (.slice A1 n1 c1) (.slice A2 n2 c2)) := ((((HK.out _ HB2.out).other (a := ⟨wr.heap.size, 0, none⟩) hne3 _).other (a := ⟨wr.heap.size, 1, none⟩) hne3 _).other (a := ⟨wr.heap.size, 2, none⟩) hne3 _)
        have HL3 := Lib.hid hL3
        have hB3 : Below wr.heap.size wr (((w2.setCell ⟨wr.heap.size, 0, none⟩ (.int .i64 (fs : Nat))).setCell ⟨wr.heap.size, 1, none⟩ (.int .u64 (fn : Nat))).setCell ⟨wr.heap.size, 2, none⟩ (.slice AT mT dT)) := ((HB2.out.setCell (p := ⟨wr.heap.size, 0, none⟩) (Nat.le_refl _) _).setCell (p := ⟨wr.heap.size, 1, none⟩) (Nat.le_refl _) _).setCell (p := ⟨wr.heap.size, 2, none⟩) (Nat.le_refl _) _
        have HB3 := Lib.hid hB3
        have hF3 : Lies (((w2.setCell ⟨wr.heap.size, 0, none⟩ (.int .i64 (fs : Nat))).setCell ⟨wr.heap.size, 1, none⟩ (.int .u64 (fn : Nat))).setCell ⟨wr.heap.size, 2, none⟩ (.slice AT mT dT)) wr.heap.size 60 #[.int .i64 (fs : Nat), .int .u64 (fn : Nat), .slice AT mT dT] := ((HLZ.out.put 0 _).put 1 _).put 2 _
        have HF3 := Lib.hid hF3
        clear hF3
        clear hL3 hB3 z0 z1 z2 zf
        generalize hW3 : (((w2.setCell ⟨wr.heap.size, 0, none⟩ (.int .i64 (fs : Nat))).setCell ⟨wr.heap.size, 1, none⟩ (.int .u64 (fn : Nat))).setCell ⟨wr.heap.size, 2, none⟩ (.slice AT mT dT)) = W3 at *
        clear hW3 HB2 HLZ
        obtain ⟨q3, hq3⟩ : ∃ q, wr.heap.size = q := ⟨_, rfl⟩
        rw [hq3] at HF3
        have hq4 : wr.heap.size ≤ q3 := by rw [← hq3]; exact Nat.le_refl _
        rw [hq3]
        clear e0 e1 e2 e3 e4 e5 e6 e7 e8 e9 e10 hq3
        have g0 : W3.cell? ⟨q3, 0, none⟩ = some (.int .i64 (fs : Nat)) := HF3.out.cell 0
        have g1 : W3.cell? ⟨q3, 1, none⟩ = some (.int .u64 (fn : Nat)) := HF3.out.cell 1
        have g2 : W3.cell? ⟨q3, 2, none⟩ = some (.slice AT mT dT) := HF3.out.cell 2
        have HROW3 := Lib.hid (frow_below HROW.out HB3.out)
        have HB5 := Lib.hid (HBE.out.trans (HB3.out.mono HBE.out.size))
        have hs5 := HB5.out.size
        go_wp2_with (first
          | ((with_reducible refine wpl_appendF (some 40) _ _ _ (.tmp 37) (.tmp 39) w.heap.size (.slice Al (1 + j) cl) (1 + j) ((fldsN e (.slice A1 n1 c1) (.slice A2 n2 c2) kn (s.take j)).flatMap Fld.cells) W3.heap.size 1 #[.int .i64 (fs : Nat), .int .u64 (fn : Nat), .slice AT mT dT] ?hs ?hx (frow_alloc HROW3.out _) (Lies.made W3 60 _) ?hc ?ho ?hm ?hz ?_); (case hs => rfl); (case hx => rfl); (case hc => rfl); (case ho => (intro u hu; simp at hu; rcases hu with rfl | rfl | rfl <;> rfl)); (case hm => omega); (case hz => exact Nat.le_trans hs5 (by simp)); (intro v' w' ho hg); (have HO := Lib.hid ho); (have HG := Lib.hid hg); (obtain ⟨A9, c9, hv9⟩ := frow_slice ho); (subst hv9); (clear ho hg)))
        go_roundw
        case rel =>
          refine ⟨j + 1, by omega, by go_num, (HL3.out.alloc (.cells #[.int .i64 (fs : Nat), .int .u64 (fn : Nat), .slice AT mT dT] 60)).grown HG.out (frow_ne (frow_alloc HROW3.out (.cells #[.int .i64 (fs : Nat), .int .u64 (fn : Nat), .slice AT mT dT] 60)) (HL3.out.alloc (.cells #[.int .i64 (fs : Nat), .int .u64 (fn : Nat), .slice AT mT dT] 60)) (by decide)), (HB5.out.alloc hs5 (.cells #[.int .i64 (fs : Nat), .int .u64 (fn : Nat), .slice AT mT dT] 60)).grown HG.out (Nat.le_trans hs5 (by simp)) (frow_block (frow_alloc HROW3.out (.cells #[.int .i64 (fs : Nat), .int .u64 (fn : Nat), .slice AT mT dT] 60))), ?_⟩
          have h9 := HO.out
          rw [HSN.out]
          exact h9
        case measure => simp [intOf]; omega
    · have hjn : j = n := by omega
      subst hjn
      have hts : s.take j = s := List.take_of_length_le (by rw [HN.out]; exact Nat.le_refl _)
      have hrow := HROW.out
      rw [hts] at hrow
      have hlen := fldsN_len e (.slice A1 n1 c1) (.slice A2 n2 c2) kn s
      rw [HN.out] at hlen
      rw [← hlen] at hrow
      obtain ⟨g, cap, hv, hfl⟩ := frow_flds hrow (by rw [hlen]; omega) (HMAY.out wr (HV.out.below HBE.out))
      rw [hlen] at hv
      injection hv with h1 _ h3
      subst h1 h3
      have cr := rput_any g (1 + j) cl _ wr hfl hlen (by omega)
      rw [← HENC.out] at cr
      have CR := Lib.hid cr
      clear cr hfl hrow hlen hts
      go_wp2_with fail
      with_reducible refine CR.out.mono ?_
      rintro x w9 ⟨v9, rfl, hO9, hb9⟩
      have HO9 := Lib.hid hO9
      clear hO9
      go_wp2
      go_ret2
      exact ⟨v9, rfl, HO9.out.mono HBE.out.size, HBE.out.trans (hb9.mono HBE.out.size)⟩

theorem refPut_any (e : Note) (A1 A2 : Option Addr) (c1 c2 : Nat) (w : World) (hV : EntV w e A1 A2 c1 c2) :
    Calls Try.prog 17 #[.agg (evs e (.slice A1 e.key.length c1) (.slice A2 e.data.length c2))] w (PutPost e w) := by
  by_cases h : Ent.ok e = true
  · exact rput_good e A1 A2 c1 c2 w hV h
  · exact rput_bad e A1 A2 c1 c2 w hV.b h

end Go.Proofs.Ytjjkjppaiejajaa
