/-
  The contract of the document's Check: for every note.
-/
import Derived.Test.YtfcfejmammohpaaRPart
import Derived.Test.YtfcfejmammohpaaNChk
import Derived.Test.YtfcfejmammohpaaRegLaw
namespace Go.Proofs.Ytfcfejmammohpaa
open Go.RowKit
set_option maxRecDepth 100000
set_option linter.unusedVariables false

theorem ok_bad {e : Note} (h : Ent.lets e.kind = [] ∨ ¬ Ent.inB e = true) : chkN e = 50 := by
  refine chkN_of (b := false) ?_
  unfold Ent.ok
  rcases h with h | h
  · rw [h]; rfl
  · have : Ent.inB e = false := by simpa using h
    rw [this]; simp

def RcR (w : World) (e : Note) (K D : Value) (i : Value) (wr : World) : Prop :=
  ∃ j : Nat, j ≤ 10 ∧ i = .int .i64 (j : Nat) ∧ Lies wr w.heap.size 29 (evs e K D) ∧ Below w.heap.size w wr ∧ ∀ i, i < j → Ent.fine (Ent.lets e.kind) e (Ent.alpha.getD i 0) = true

theorem fldOf_T (e : Note) (A1 A2 : Option Addr) (n1 c1 n2 c2 c : Nat) : ∃ A m d, (fldOf e (.slice A1 n1 c1) (.slice A2 n2 c2) c).T = .slice A m d := by
  unfold fldOf
  repeat' split
  all_goals exact ⟨_, _, _, rfl⟩

set_option maxRecDepth 100000 in
set_option maxHeartbeats 4000000 in
theorem rcheck_good (e : Note) (A1 A2 : Option Addr) (c1 c2 : Nat) (w : World) (hb : Ent.Bnd e) (hs0 : ¬ Ent.lets e.kind = []) (hin : Ent.inB e = true) :
    Calls Try.prog 41 #[.agg (evs e (.slice A1 e.key.length c1) (.slice A2 e.data.length c2))] w (ChkPost e w) := by
  have hf : Ent.ok e = (Ent.only (Ent.lets e.kind) e && !Ent.lackK e) := by
    unfold Ent.ok
    rw [hin, show decide (Ent.lets e.kind = []) = false from decide_eq_false hs0]; rfl
  have hi := (Ent.inB_iff e).1 hin
  have CN := Lib.hid (fun W => rnames_any e.kind W)
  unfold RNamesPost at CN
  have CP := Lib.hid (fun c hc W => part_any e A1 A2 c1 c2 c hc W hb hin)
  have CH := Lib.hid (fun c W => has_ref e.kind c W)
  unfold PartPost fcs at CP
  unfold BoolPost at CH
  unfold ChkPost
  have hnil := str_nil (Ent.lets e.kind)
  rw [show decide (Ent.lets e.kind = []) = false from decide_eq_false hs0] at hnil
  have HAG := Lib.hid (str_get Ent.alpha Ent.alpha_small)
  rw [show str Ent.alpha = ({ data := #[69, 80, 76, 84, 79, 83, 85, 67, 75, 68] } : ByteArray) from rfl] at HAG
  have hasz : ({ data := #[69, 80, 76, 84, 79, 83, 85, 67, 75, 68] } : ByteArray).size = 10 := rfl
  have hlk : Ent.lackK e = (decide (e.key.length = 0) && decide (e.kind = 10 ∨ e.kind = 11 ∨ e.kind = 12)) := by
    unfold Ent.lackK
    rw [Bool.eq_iff_iff]; simp only [Bool.and_eq_true, decide_eq_true_eq]; omega
  rw [hlk] at hf
  generalize str (Ent.lets e.kind) = S at *
  obtain ⟨n1, hn1⟩ : ∃ n, e.key.length = n := ⟨_, rfl⟩
  obtain ⟨n2, hn2⟩ : ∃ n, e.data.length = n := ⟨_, rfl⟩
  rw [hn1, hn2] at hi
  rw [hn1] at hf
  obtain ⟨i1, i2, i3, i4, i5, i6⟩ := hi
  have d1 : decide (e.step < 0) = false := by rw [decide_eq_false_iff_not]; omega
  have d2 : decide (15 < e.step) = false := by rw [decide_eq_false_iff_not]; omega
  have d3 : decide (e.code < 0) = false := by rw [decide_eq_false_iff_not]; omega
  have d4 : decide (255 < e.code) = false := by rw [decide_eq_false_iff_not]; omega
  have d5 : decide ((32 : Int) < (n1 : Int)) = false := by rw [decide_eq_false_iff_not]; omega
  have d6 : decide ((255 : Int) < (n2 : Int)) = false := by rw [decide_eq_false_iff_not]; omega
  have d7 : decide (32 < n1) = false := by rw [decide_eq_false_iff_not]; omega
  have d8 : decide (255 < n2) = false := by rw [decide_eq_false_iff_not]; omega
  simp only [hn1, hn2] at CP
  rw [hn1, hn2]
  have HF := Lib.hid hf
  clear hf hb hin hs0 hn1 hn2 hlk
  have b0 := below1 w (.cells (evs e (.slice A1 n1 c1) (.slice A2 n2 c2)) 29)
  have L0 := Lib.hid (Lies.made w 29 (evs e (.slice A1 n1 c1) (.slice A2 n2 c2)))
  go_enter Try.func41, Try.ntmps41
  go_wp2_with fail
  with_reducible refine (CN.out _).mono ?_
  rintro x w1 ⟨rfl, hb1⟩
  have L1 := Lib.hid (L0.out.below hb1 L0.out.lt)
  have BB1 := Lib.hid (b0.trans (hb1.mono b0.size))
  obtain ⟨e0, e1, e2, e3, e4, e5, e6, e7, e8, e9, e10⟩ := L1.out.cellsE
  clear hb1 b0 L0 CN
  go_wp2_with fail
  clear e0 e1 e2 e3 e4 e5 e6 e7 e8 e9 e10 i1 i2 i3 i4 i5 i6 d1 d2 d3 d4 d5 d6 d7 d8
  go_loopw [5] (RcR w e (.slice A1 n1 c1) (.slice A2 n2 c2)) (fun i _ => 10 - (intOf i).toNat)
  case atStart => exact ⟨0, by omega, rfl, L1.out, BB1.out, fun i hi => by omega⟩
  case round =>
    obtain ⟨j, hj, rfl, hL, hbel, hf⟩ := hrel
    have HL := Lib.hid hL
    have HBE := Lib.hid hbel
    have HFI := Lib.hid hf
    clear hL hbel hf L1 BB1
    by_cases hp : j < 10
    · have hj2 : (j : Int) < (10 : Int) := by omega
      have hvp := HAG.out j
      have hca := alpha_at j hp
      obtain ⟨c, hcc⟩ : ∃ c, Ent.alpha.getD j 0 = c := ⟨_, rfl⟩
      rw [hcc] at hvp hca
      have HCC := Lib.hid hcc
      have hfc : Ent.fine (Ent.lets e.kind) e c = ((Ent.lets e.kind).contains c || Ent.isZ c e) := rfl
      have HFC := Lib.hid hfc
      have D1 := Lib.hid (CP.out c hca)
      have D2 := Lib.hid (CH.out c)
      generalize (Ent.lets e.kind).contains c = r1 at *
      generalize Ent.isZ c e = r2 at *
      obtain ⟨AT, mT, dT, hT⟩ := fldOf_T e A1 A2 n1 c1 n2 c2 c
      rw [hT] at D1
      generalize (fldOf e (.slice A1 n1 c1) (.slice A2 n2 c2) c).size = fs at *
      generalize (fldOf e (.slice A1 n1 c1) (.slice A2 n2 c2) c).n = fn at *
      clear hT
      have HK := Lib.hid (fun W (hb : Below wr.heap.size wr W) => Lies.below HL.out hb (Lies.lt HL.out))
      clear hcc hfc
      obtain ⟨e0, e1, e2, e3, e4, e5, e6, e7, e8, e9, e10⟩ := HL.out.cellsE
      have hne3 : w.heap.size ≠ wr.heap.size := by have := HL.out.lt; omega
      go_wp2_with fail
      refine wp_region_noPanic ?_
      refine wp_region_held_drew (S := fun W => W.cell? ⟨w.heap.size, 0, none⟩ = some (.int .i64 e.kind) ∧ W.cell? ⟨w.heap.size, 1, none⟩ = some (.int .u32 (e.epoch : Nat)) ∧ W.cell? ⟨w.heap.size, 2, none⟩ = some (.int .u32 (e.old : Nat)) ∧ W.cell? ⟨w.heap.size, 3, none⟩ = some (.int .u64 (e.lsn : Nat)) ∧ W.cell? ⟨w.heap.size, 4, none⟩ = some (.int .u64 (e.tick : Nat)) ∧ W.cell? ⟨w.heap.size, 5, none⟩ = some (.int .u32 (e.order : Nat)) ∧ W.cell? ⟨w.heap.size, 6, none⟩ = some (.int .i64 e.step) ∧ W.cell? ⟨w.heap.size, 7, none⟩ = some (.bool e.undo) ∧ W.cell? ⟨w.heap.size, 8, none⟩ = some (.int .i64 e.code) ∧ W.cell? ⟨w.heap.size, 9, none⟩ = some (.slice A1 n1 c1) ∧ W.cell? ⟨w.heap.size, 10, none⟩ = some (.slice A2 n2 c2)) (by kernel_rfl) (⟨(HL.out).cell 0, (HL.out).cell 1, (HL.out).cell 2, (HL.out).cell 3, (HL.out).cell 4, (HL.out).cell 5, (HL.out).cell 6, (HL.out).cell 7, (HL.out).cell 8, (HL.out).cell 9, (HL.out).cell 10⟩) (fun hH => ?_)
      refine any_take 0 53 ?va0 rfl rfl (by kernel_rfl) (by kernel_rfl) (by kernel_rfl) (fun _ _ _ h => h) (by rfl) ?hya0 hH ?resta0
      case hya0 => ((intro W hSw); go_simp; (try with_reducible rfl))
      try simp only [Act.put, List.setIfInBounds_toArray, List.set_cons_zero, List.set_cons_succ]
      refine any_take 1 54 ?va1 rfl rfl (by kernel_rfl) (by kernel_rfl) (by kernel_rfl) (fun _ _ _ h => h) (by rfl) ?hya1 hH ?resta1
      case hya1 => ((intro W hSw); go_simp; (try with_reducible rfl))
      try simp only [Act.put, List.setIfInBounds_toArray, List.set_cons_zero, List.set_cons_succ]
      refine any_take 2 55 ?va2 rfl rfl (by kernel_rfl) (by kernel_rfl) (by kernel_rfl) (fun _ _ _ h => h) (by rfl) ?hya2 hH ?resta2
      case hya2 => ((intro W hSw); go_simp; (try with_reducible rfl))
      try simp only [Act.put, List.setIfInBounds_toArray, List.set_cons_zero, List.set_cons_succ]
      refine any_take 3 56 ?va3 rfl rfl (by kernel_rfl) (by kernel_rfl) (by kernel_rfl) (fun _ _ _ h => h) (by rfl) ?hya3 hH ?resta3
      case hya3 => ((intro W hSw); go_simp; (try with_reducible rfl))
      try simp only [Act.put, List.setIfInBounds_toArray, List.set_cons_zero, List.set_cons_succ]
      refine wpAnyH_ready (rs := [4, 8]) (by kernel_rfl) (by simp) ?_
      refine AllReadyH.cons rfl (fun K hK => ?_) (AllReadyH.cons rfl (fun K hK => ?_) AllReadyH.nil)
      · go_simp
        go_at_call 66
        with_reducible refine (D1.out _).mono ?_
        rintro x w2 ⟨rfl, hb2⟩
        have hB2 : Below wr.heap.size wr w2 := (Below.refl _ wr).drew.trans (hb2.mono (Nat.le_refl _))
        have HB2 := Lib.hid hB2
        clear hb2 hB2
        refine hK.out _ _ (⟨(HK.out _ HB2.out).cell 0, (HK.out _ HB2.out).cell 1, (HK.out _ HB2.out).cell 2, (HK.out _ HB2.out).cell 3, (HK.out _ HB2.out).cell 4, (HK.out _ HB2.out).cell 5, (HK.out _ HB2.out).cell 6, (HK.out _ HB2.out).cell 7, (HK.out _ HB2.out).cell 8, (HK.out _ HB2.out).cell 9, (HK.out _ HB2.out).cell 10⟩) (fun hH2 => ?_)
        clear hK K hH
        try simp only [Act.put, List.setIfInBounds_toArray, List.set_cons_zero, List.set_cons_succ]
        refine any_take 5 52 ?vaA5 rfl rfl (by kernel_rfl) (by kernel_rfl) (by kernel_rfl) (fun _ _ _ h => h) (by rfl) ?hyaA5 hH2 ?restaA5
        case hyaA5 => ((intro W hSw); go_simp; (try with_reducible rfl))
        try simp only [Act.put, List.setIfInBounds_toArray, List.set_cons_zero, List.set_cons_succ]
        refine any_take 6 58 ?vaA6 rfl rfl (by kernel_rfl) (by kernel_rfl) (by kernel_rfl) (fun _ _ _ h => h) (by rfl) ?hyaA6 hH2 ?restaA6
        case hyaA6 => ((intro W hSw); go_simp; (try with_reducible rfl))
        try simp only [Act.put, List.setIfInBounds_toArray, List.set_cons_zero, List.set_cons_succ]
        refine any_take 7 59 ?vaA7 rfl rfl (by kernel_rfl) (by kernel_rfl) (by kernel_rfl) (fun _ _ _ h => h) (by rfl) ?hyaA7 hH2 ?restaA7
        case hyaA7 => ((intro W hSw); go_simp; (try with_reducible rfl))
        try simp only [Act.put, List.setIfInBounds_toArray, List.set_cons_zero, List.set_cons_succ]
        refine wpAnyH_ready (rs := [8]) (by kernel_rfl) (by simp) ?_
        refine AllReadyH.cons rfl (fun K hK => ?_) AllReadyH.nil
        go_simp
        refine hK.out _ _ (⟨((HK.out _ HB2.out).alloc _).cell 0, ((HK.out _ HB2.out).alloc _).cell 1, ((HK.out _ HB2.out).alloc _).cell 2, ((HK.out _ HB2.out).alloc _).cell 3, ((HK.out _ HB2.out).alloc _).cell 4, ((HK.out _ HB2.out).alloc _).cell 5, ((HK.out _ HB2.out).alloc _).cell 6, ((HK.out _ HB2.out).alloc _).cell 7, ((HK.out _ HB2.out).alloc _).cell 8, ((HK.out _ HB2.out).alloc _).cell 9, ((HK.out _ HB2.out).alloc _).cell 10⟩) (fun hH3 => ?_)
        clear hK K hH2
        try simp only [Act.put, List.setIfInBounds_toArray, List.set_cons_zero, List.set_cons_succ]
        refine wpAnyH_ready (rs := [9]) (by kernel_rfl) (by simp) ?_
        refine AllReadyH.cons rfl (fun K hK => ?_) AllReadyH.nil
        go_simp
        refine hK.out _ _ (⟨((HK.out _ HB2.out).alloc _).cell 0, ((HK.out _ HB2.out).alloc _).cell 1, ((HK.out _ HB2.out).alloc _).cell 2, ((HK.out _ HB2.out).alloc _).cell 3, ((HK.out _ HB2.out).alloc _).cell 4, ((HK.out _ HB2.out).alloc _).cell 5, ((HK.out _ HB2.out).alloc _).cell 6, ((HK.out _ HB2.out).alloc _).cell 7, ((HK.out _ HB2.out).alloc _).cell 8, ((HK.out _ HB2.out).alloc _).cell 9, ((HK.out _ HB2.out).alloc _).cell 10⟩) (fun hH4 => ?_)
        clear hK K hH3
        try simp only [Act.put, List.setIfInBounds_toArray, List.set_cons_zero, List.set_cons_succ]
        refine any_take 10 7 ?vaA10 rfl rfl (by kernel_rfl) (by kernel_rfl) (by kernel_rfl) (fun _ _ _ h => h) (by rfl) ?hyaA10 hH4 ?restaA10
        case hyaA10 => ((intro W hSw); go_simp; (try with_reducible rfl))
        try simp only [Act.put, List.setIfInBounds_toArray, List.set_cons_zero, List.set_cons_succ]
        refine wpAnyH_done (by kernel_rfl) ?_ _
        refine NoPanic.normal ?_
        clear hH4
        have HL3 := Lib.hid ((HK.out _ HB2.out).alloc (.cells #[.int .i64 (fs : Nat), .int .u64 (fn : Nat), .slice AT mT dT] 101))
        have HB3 := Lib.hid (HB2.out.alloc HB2.out.size (.cells #[.int .i64 (fs : Nat), .int .u64 (fn : Nat), .slice AT mT dT] 101))
        generalize hW3 : w2.alloc (.cells #[.int .i64 (fs : Nat), .int .u64 (fn : Nat), .slice AT mT dT] 101) = W3 at *
        clear hW3 HB2
        clear e0 e1 e2 e3 e4 e5 e6 e7 e8 e9 e10
        have k0 := HL3.out.cell 0
        have k0 : W3.cell? ⟨w.heap.size, 0, none⟩ = some (.int .i64 e.kind) := k0
        have HK0 := Lib.hid (fun W (hb : Below W3.drew.heap.size W3.drew W) => (hb.cell (block_lt_of_cell (w := W3.drew) k0)).trans k0)
        go_wp2_with fail
        go_region_held3 (fun W => W.cell? ⟨w.heap.size, 0, none⟩ = some (.int .i64 e.kind)) (first | go_keep | exact HK0.out _ HB4.out)
          ((go_at_call 67; (with_reducible refine (D2.out _).mono ?_); rintro x w4 ⟨rfl, hb4⟩; have HB4 := Lib.hid hb4; clear hb4))
        have HL5 := Lib.hid (Lies.below (w := W3.drew) HL3.out HB4.out (Lies.lt (w := W3.drew) HL3.out))
        have HB5 := Lib.hid (HBE.out.trans ((HB3.out.drew.trans (HB4.out.mono HB3.out.size)).mono HBE.out.size))
        clear k0
        cases r2
        · cases r1
          · go_wp2
            go_ret
            rw [chkN_of (b := false) (by rw [HF.out, only_not _ e j hp (by rw [HCC.out, HFC.out]; rfl)]; rfl)]
            exact ⟨rfl, HB5.out⟩
          · go_wp2
            go_roundw
            case rel =>
              refine ⟨j + 1, by omega, by go_num, HL5.out, HB5.out, fun i hi => ?_⟩
              by_cases h : i < j
              · exact HFI.out i h
              · have : i = j := by omega
                subst this
                rw [HCC.out, HFC.out]; rfl
            case measure => simp [intOf]; omega
        · go_wp2
          go_roundw
          case rel =>
            refine ⟨j + 1, by omega, by go_num, HL5.out, HB5.out, fun i hi => ?_⟩
            by_cases h : i < j
            · exact HFI.out i h
            · have : i = j := by omega
              subst this
              rw [HCC.out, HFC.out, Bool.or_true]
          case measure => simp [intOf]; omega
      · go_simp
        refine hK.out _ _ (⟨(HL.out.alloc _).cell 0, (HL.out.alloc _).cell 1, (HL.out.alloc _).cell 2, (HL.out.alloc _).cell 3, (HL.out.alloc _).cell 4, (HL.out.alloc _).cell 5, (HL.out.alloc _).cell 6, (HL.out.alloc _).cell 7, (HL.out.alloc _).cell 8, (HL.out.alloc _).cell 9, (HL.out.alloc _).cell 10⟩) (fun hH2 => ?_)
        clear hK K hH
        try simp only [Act.put, List.setIfInBounds_toArray, List.set_cons_zero, List.set_cons_succ]
        refine wpAnyH_ready (rs := [4]) (by kernel_rfl) (by simp) ?_
        refine AllReadyH.cons rfl (fun K hK => ?_) AllReadyH.nil
        go_simp
        go_at_call 66
        with_reducible refine (D1.out (World.drew (World.alloc wr (.cells #[.int .i64 0, .int .u64 0, .slice none 0 0] 101)))).mono ?_
        rintro x w2 ⟨rfl, hb2⟩
        have hB2 : Below wr.heap.size wr w2 := (below1 wr _).drew.trans (hb2.mono (by simp))
        have HB2 := Lib.hid hB2
        have Lz : Lies w2 wr.heap.size 101 #[.int .i64 0, .int .u64 0, .slice none 0 0] := Lies.below (w := World.drew (World.alloc wr (.cells #[.int .i64 0, .int .u64 0, .slice none 0 0] 101))) (Lies.made wr 101 _) hb2 (by simp)
        have z0 := Lz.cell 0
        have z1 := Lz.cell 1
        have z2 := Lz.cell 2
        have zf := Lz.free
        have HLZ := Lib.hid Lz
        clear hb2 hB2 Lz
        refine hK.out _ _ (⟨(HK.out _ HB2.out).cell 0, (HK.out _ HB2.out).cell 1, (HK.out _ HB2.out).cell 2, (HK.out _ HB2.out).cell 3, (HK.out _ HB2.out).cell 4, (HK.out _ HB2.out).cell 5, (HK.out _ HB2.out).cell 6, (HK.out _ HB2.out).cell 7, (HK.out _ HB2.out).cell 8, (HK.out _ HB2.out).cell 9, (HK.out _ HB2.out).cell 10⟩) (fun hH3 => ?_)
        clear hK K hH2
        try simp only [Act.put, List.setIfInBounds_toArray, List.set_cons_zero, List.set_cons_succ]
        refine any_take 5 52 ?vaB5 rfl rfl (by kernel_rfl) (by kernel_rfl) (by kernel_rfl) (fun _ _ _ h => h) (by rfl) ?hyaB5 hH3 ?restaB5
        case hyaB5 => ((intro W hSw); go_simp; (try with_reducible rfl))
        try simp only [Act.put, List.setIfInBounds_toArray, List.set_cons_zero, List.set_cons_succ]
        refine any_take 6 58 ?vaB6 rfl rfl (by kernel_rfl) (by kernel_rfl) (by kernel_rfl) (fun _ _ _ h => h) (by rfl) ?hyaB6 hH3 ?restaB6
        case hyaB6 => ((intro W hSw); go_simp; (try with_reducible rfl))
        try simp only [Act.put, List.setIfInBounds_toArray, List.set_cons_zero, List.set_cons_succ]
        refine any_take 7 59 ?vaB7 rfl rfl (by kernel_rfl) (by kernel_rfl) (by kernel_rfl) (fun _ _ _ h => h) (by rfl) ?hyaB7 hH3 ?restaB7
        case hyaB7 => ((intro W hSw); go_simp; (try with_reducible rfl))
        try simp only [Act.put, List.setIfInBounds_toArray, List.set_cons_zero, List.set_cons_succ]
        refine wpAnyH_ready (rs := [9]) (by kernel_rfl) (by simp) ?_
        refine AllReadyH.cons rfl (fun K hK => ?_) AllReadyH.nil
        go_simp
        refine hK.out _ _ (⟨(((((HK.out _ HB2.out).other (a := ⟨wr.heap.size, 0, none⟩) hne3 _).other (a := ⟨wr.heap.size, 1, none⟩) hne3 _).other (a := ⟨wr.heap.size, 2, none⟩) hne3 _)).cell 0, (((((HK.out _ HB2.out).other (a := ⟨wr.heap.size, 0, none⟩) hne3 _).other (a := ⟨wr.heap.size, 1, none⟩) hne3 _).other (a := ⟨wr.heap.size, 2, none⟩) hne3 _)).cell 1, (((((HK.out _ HB2.out).other (a := ⟨wr.heap.size, 0, none⟩) hne3 _).other (a := ⟨wr.heap.size, 1, none⟩) hne3 _).other (a := ⟨wr.heap.size, 2, none⟩) hne3 _)).cell 2, (((((HK.out _ HB2.out).other (a := ⟨wr.heap.size, 0, none⟩) hne3 _).other (a := ⟨wr.heap.size, 1, none⟩) hne3 _).other (a := ⟨wr.heap.size, 2, none⟩) hne3 _)).cell 3, (((((HK.out _ HB2.out).other (a := ⟨wr.heap.size, 0, none⟩) hne3 _).other (a := ⟨wr.heap.size, 1, none⟩) hne3 _).other (a := ⟨wr.heap.size, 2, none⟩) hne3 _)).cell 4, (((((HK.out _ HB2.out).other (a := ⟨wr.heap.size, 0, none⟩) hne3 _).other (a := ⟨wr.heap.size, 1, none⟩) hne3 _).other (a := ⟨wr.heap.size, 2, none⟩) hne3 _)).cell 5, (((((HK.out _ HB2.out).other (a := ⟨wr.heap.size, 0, none⟩) hne3 _).other (a := ⟨wr.heap.size, 1, none⟩) hne3 _).other (a := ⟨wr.heap.size, 2, none⟩) hne3 _)).cell 6, (((((HK.out _ HB2.out).other (a := ⟨wr.heap.size, 0, none⟩) hne3 _).other (a := ⟨wr.heap.size, 1, none⟩) hne3 _).other (a := ⟨wr.heap.size, 2, none⟩) hne3 _)).cell 7, (((((HK.out _ HB2.out).other (a := ⟨wr.heap.size, 0, none⟩) hne3 _).other (a := ⟨wr.heap.size, 1, none⟩) hne3 _).other (a := ⟨wr.heap.size, 2, none⟩) hne3 _)).cell 8, (((((HK.out _ HB2.out).other (a := ⟨wr.heap.size, 0, none⟩) hne3 _).other (a := ⟨wr.heap.size, 1, none⟩) hne3 _).other (a := ⟨wr.heap.size, 2, none⟩) hne3 _)).cell 9, (((((HK.out _ HB2.out).other (a := ⟨wr.heap.size, 0, none⟩) hne3 _).other (a := ⟨wr.heap.size, 1, none⟩) hne3 _).other (a := ⟨wr.heap.size, 2, none⟩) hne3 _)).cell 10⟩) (fun hH4 => ?_)
        clear hK K hH3
        try simp only [Act.put, List.setIfInBounds_toArray, List.set_cons_zero, List.set_cons_succ]
        refine any_take 10 7 ?vaB10 rfl rfl (by kernel_rfl) (by kernel_rfl) (by kernel_rfl) (fun _ _ _ h => h) (by rfl) ?hyaB10 hH4 ?restaB10
        case hyaB10 => ((intro W hSw); go_simp; (try with_reducible rfl))
        try simp only [Act.put, List.setIfInBounds_toArray, List.set_cons_zero, List.set_cons_succ]
        refine wpAnyH_done (by kernel_rfl) ?_ _
        refine NoPanic.normal ?_
        clear hH4
        have hL3 : Lies (((w2.setCell ⟨wr.heap.size, 0, none⟩ (.int .i64 (fs : Nat))).setCell ⟨wr.heap.size, 1, none⟩ (.int .u64 (fn : Nat))).setCell ⟨wr.heap.size, 2, none⟩ (.slice AT mT dT)) w.heap.size 29 (evs e (.slice A1 n1 c1) (.slice A2 n2 c2)) := ((((HK.out _ HB2.out).other (a := ⟨wr.heap.size, 0, none⟩) hne3 _).other (a := ⟨wr.heap.size, 1, none⟩) hne3 _).other (a := ⟨wr.heap.size, 2, none⟩) hne3 _)
        have HL3 := Lib.hid hL3
        have hB3 : Below wr.heap.size wr (((w2.setCell ⟨wr.heap.size, 0, none⟩ (.int .i64 (fs : Nat))).setCell ⟨wr.heap.size, 1, none⟩ (.int .u64 (fn : Nat))).setCell ⟨wr.heap.size, 2, none⟩ (.slice AT mT dT)) := ((HB2.out.setCell (p := ⟨wr.heap.size, 0, none⟩) (Nat.le_refl _) _).setCell (p := ⟨wr.heap.size, 1, none⟩) (Nat.le_refl _) _).setCell (p := ⟨wr.heap.size, 2, none⟩) (Nat.le_refl _) _
        have HB3 := Lib.hid hB3
        clear hL3 hB3 z0 z1 z2 zf
        generalize hW3 : (((w2.setCell ⟨wr.heap.size, 0, none⟩ (.int .i64 (fs : Nat))).setCell ⟨wr.heap.size, 1, none⟩ (.int .u64 (fn : Nat))).setCell ⟨wr.heap.size, 2, none⟩ (.slice AT mT dT)) = W3 at *
        clear hW3 HB2 HLZ
        clear e0 e1 e2 e3 e4 e5 e6 e7 e8 e9 e10
        have k0 := HL3.out.cell 0
        have k0 : W3.cell? ⟨w.heap.size, 0, none⟩ = some (.int .i64 e.kind) := k0
        have HK0 := Lib.hid (fun W (hb : Below W3.drew.heap.size W3.drew W) => (hb.cell (block_lt_of_cell (w := W3.drew) k0)).trans k0)
        go_wp2_with fail
        go_region_held3 (fun W => W.cell? ⟨w.heap.size, 0, none⟩ = some (.int .i64 e.kind)) (first | go_keep | exact HK0.out _ HB4.out)
          ((go_at_call 67; (with_reducible refine (D2.out _).mono ?_); rintro x w4 ⟨rfl, hb4⟩; have HB4 := Lib.hid hb4; clear hb4))
        have HL5 := Lib.hid (Lies.below (w := W3.drew) HL3.out HB4.out (Lies.lt (w := W3.drew) HL3.out))
        have HB5 := Lib.hid (HBE.out.trans ((HB3.out.drew.trans (HB4.out.mono HB3.out.size)).mono HBE.out.size))
        clear k0
        cases r2
        · cases r1
          · go_wp2
            go_ret
            rw [chkN_of (b := false) (by rw [HF.out, only_not _ e j hp (by rw [HCC.out, HFC.out]; rfl)]; rfl)]
            exact ⟨rfl, HB5.out⟩
          · go_wp2
            go_roundw
            case rel =>
              refine ⟨j + 1, by omega, by go_num, HL5.out, HB5.out, fun i hi => ?_⟩
              by_cases h : i < j
              · exact HFI.out i h
              · have : i = j := by omega
                subst this
                rw [HCC.out, HFC.out]; rfl
            case measure => simp [intOf]; omega
        · go_wp2
          go_roundw
          case rel =>
            refine ⟨j + 1, by omega, by go_num, HL5.out, HB5.out, fun i hi => ?_⟩
            by_cases h : i < j
            · exact HFI.out i h
            · have : i = j := by omega
              subst this
              rw [HCC.out, HFC.out, Bool.or_true]
          case measure => simp [intOf]; omega
    · have hj10 : j = 10 := by omega
      have hon : Ent.only (Ent.lets e.kind) e = true := only_of _ e (fun i hi => HFI.out i (by rw [hj10]; exact hi))
      have hf2 := HF.out
      rw [hon, Bool.true_and] at hf2
      have HF2 := Lib.hid hf2
      obtain ⟨e0, e1, e2, e3, e4, e5, e6, e7, e8, e9, e10⟩ := HL.out.cellsE
      clear hj10 hon hf2 e1 e2 e3 e4 e5 e6 e7 e8 e10
      obtain ⟨kd, hkd⟩ : ∃ k, e.kind = k := ⟨_, rfl⟩
      rw [hkd] at e0
      have HKD := Lib.hid hkd
      clear hkd
      by_cases hn0 : n1 = 0
      · subst hn0
        by_cases h10 : kd = 10
        · subst h10
          go_wp2
          go_ret
          rw [chkN_of (b := false) (by rw [HF2.out, HKD.out]; rfl)]
          exact ⟨rfl, HBE.out⟩
        · have g1 : (kd == 10) = false := by rw [beq_eq_false_iff_ne]; exact h10
          by_cases h11 : kd = 11
          · subst h11
            go_wp2
            go_ret
            rw [chkN_of (b := false) (by rw [HF2.out, HKD.out]; rfl)]
            exact ⟨rfl, HBE.out⟩
          · have g2 : (kd == 11) = false := by rw [beq_eq_false_iff_ne]; exact h11
            by_cases h12 : kd = 12
            · subst h12
              go_wp2
              go_ret
              rw [chkN_of (b := false) (by rw [HF2.out, HKD.out]; rfl)]
              exact ⟨rfl, HBE.out⟩
            · have g3 : (kd == 12) = false := by rw [beq_eq_false_iff_ne]; exact h12
              go_wp2
              go_ret
              rw [chkN_of (b := true) (by rw [HF2.out, HKD.out]; simp [h10, h11, h12])]
              exact ⟨rfl, HBE.out⟩
      · have g0 : (((n1 : Nat) : Int) == 0) = false := by rw [beq_eq_false_iff_ne]; omega
        go_wp2
        go_ret
        rw [chkN_of (b := true) (by rw [HF2.out]; simp [hn0])]
        exact ⟨rfl, HBE.out⟩

set_option maxRecDepth 100000 in
set_option maxHeartbeats 4000000 in
theorem rcheck_bad (e : Note) (A1 A2 : Option Addr) (c1 c2 : Nat) (w : World) (h : Ent.lets e.kind = [] ∨ ¬ Ent.inB e = true) :
    Calls Try.prog 41 #[.agg (evs e (.slice A1 e.key.length c1) (.slice A2 e.data.length c2))] w (ChkPost e w) := by
  have hn := ok_bad h
  have CN := Lib.hid (fun W => rnames_any e.kind W)
  unfold RNamesPost at CN
  unfold ChkPost
  rw [hn]
  have hnil := str_nil (Ent.lets e.kind)
  have hi : ¬ Ent.lets e.kind = [] → ¬ (0 ≤ e.step ∧ e.step < 16 ∧ 0 ≤ e.code ∧ e.code ≤ 255 ∧ e.key.length ≤ 32 ∧ e.data.length ≤ 255) := fun h0 hh => by
    rcases h with h | h
    · exact h0 h
    · exact h ((Ent.inB_iff e).2 hh)
  obtain ⟨r0, hr0⟩ : ∃ r, decide (Ent.lets e.kind = []) = r := ⟨_, rfl⟩
  have hi2 : r0 = false → ¬ (0 ≤ e.step ∧ e.step < 16 ∧ 0 ≤ e.code ∧ e.code ≤ 255 ∧ e.key.length ≤ 32 ∧ e.data.length ≤ 255) := fun hh => hi (by rw [hh] at hr0; exact of_decide_eq_false hr0)
  rw [hr0] at hnil
  generalize str (Ent.lets e.kind) = S at *
  generalize e.key.length = n1 at *
  generalize e.data.length = n2 at *
  have b0 := below1 w (.cells (evs e (.slice A1 n1 c1) (.slice A2 n2 c2)) 29)
  have L0 := Lib.hid (Lies.made w 29 (evs e (.slice A1 n1 c1) (.slice A2 n2 c2)))
  clear hn hi hr0 h
  go_enter Try.func41, Try.ntmps41
  go_wp2_with fail
  with_reducible refine (CN.out _).mono ?_
  rintro x w1 ⟨rfl, hb1⟩
  obtain ⟨e0, e1, e2, e3, e4, e5, e6, e7, e8, e9, e10⟩ := (L0.out.below hb1 L0.out.lt).cellsE
  have BB1 := Lib.hid (b0.trans (hb1.mono b0.size))
  clear hb1 b0 L0 CN e0 e1 e2 e3 e4 e5 e7
  generalize e.step = st at *
  generalize e.code = cd at *
  cases r0
  · replace hi2 := hi2 rfl
    by_cases h : st < 0
    · have d : decide (st < 0) = true := by rw [decide_eq_true_iff]; omega
      clear hi2
      go_wp2
      go_ret
      exact ⟨rfl, BB1.out⟩
    · have f6 : decide (st < 0) = false := by rw [decide_eq_false_iff_not]; omega
      have f6c := h
      clear h
      by_cases h : 15 < st
      · have d : decide (15 < st) = true := by rw [decide_eq_true_iff]; omega
        clear hi2
        go_wp2
        go_ret
        exact ⟨rfl, BB1.out⟩
      · have f5 : decide (15 < st) = false := by rw [decide_eq_false_iff_not]; omega
        have f5c := h
        clear h
        by_cases h : cd < 0
        · have d : decide (cd < 0) = true := by rw [decide_eq_true_iff]; omega
          clear hi2
          go_wp2
          go_ret
          exact ⟨rfl, BB1.out⟩
        · have f4 : decide (cd < 0) = false := by rw [decide_eq_false_iff_not]; omega
          have f4c := h
          clear h
          by_cases h : 255 < cd
          · have d : decide (255 < cd) = true := by rw [decide_eq_true_iff]; omega
            clear hi2
            go_wp2
            go_ret
            exact ⟨rfl, BB1.out⟩
          · have f3 : decide (255 < cd) = false := by rw [decide_eq_false_iff_not]; omega
            have f3c := h
            clear h
            by_cases h : 32 < n1
            · have d : decide ((32 : Int) < (n1 : Int)) = true := by rw [decide_eq_true_iff]; omega
              clear hi2
              go_wp2
              go_ret
              exact ⟨rfl, BB1.out⟩
            · have f2 : decide ((32 : Int) < (n1 : Int)) = false := by rw [decide_eq_false_iff_not]; omega
              have f2b : decide (32 < n1) = false := by rw [decide_eq_false_iff_not]; omega
              have f2c := h
              clear h
              by_cases h : 255 < n2
              · have d : decide ((255 : Int) < (n2 : Int)) = true := by rw [decide_eq_true_iff]; omega
                clear hi2
                go_wp2
                go_ret
                exact ⟨rfl, BB1.out⟩
              · exact absurd ⟨by omega, by omega, by omega, by omega, by omega, by omega⟩ hi2
  · go_wp2
    go_ret
    exact ⟨rfl, BB1.out⟩

theorem rcheck_any (e : Note) (A1 A2 : Option Addr) (c1 c2 : Nat) (w : World) (hb : Ent.Bnd e) :
    Calls Try.prog 41 #[.agg (evs e (.slice A1 e.key.length c1) (.slice A2 e.data.length c2))] w (ChkPost e w) := by
  by_cases h0 : Ent.lets e.kind = []
  · exact rcheck_bad e A1 A2 c1 c2 w (.inl h0)
  · by_cases hi : Ent.inB e = true
    · exact rcheck_good e A1 A2 c1 c2 w hb h0 hi
    · exact rcheck_bad e A1 A2 c1 c2 w (.inr hi)

end Go.Proofs.Ytfcfejmammohpaa
