/-
  The walk of FrameCut, out of the contracts.
-/
import Derived.Test.YtaehagejmeimiaaRowOut
namespace Go.Proofs.Ytaehagejmeimiaa
open Go.RowKit

theorem endOf_frm (x : List Nat) (k : Nat) (hk : 0 < k) : Frm.endOf ((Frm.frm x).take k) = 31 := by
  obtain ⟨m, rfl⟩ : ∃ m, k = m + 1 := ⟨k - 1, by omega⟩
  rw [Frm.frm, Frm.head, List.cons_append, List.take_succ_cons]
  exact Frm.endOf_bad _ _ (by decide)

theorem cut_split (good : List (List Nat)) (j k : Nat) (hj : j ≤ good.length) (hs : Frm.Short good) (h1 : (Frm.row (good.take j)).length ≤ k) (h2 : j < good.length → k < (Frm.row (good.take (j + 1))).length) (h3 : k ≤ (Frm.row good).length) :
    ∃ r, (Frm.row good).take k = Frm.row (good.take j) ++ r ∧ Frm.opn r = none ∧ Frm.endOf r = if (Frm.row (good.take j)).length = k then 0 else 31 := by
  by_cases hlt : j < good.length
  · have hk := h2 hlt
    rw [row_take_len good j hlt] at hk
    have e : Frm.row good = Frm.row (good.take j) ++ (Frm.frm good[j] ++ Frm.row (good.drop (j + 1))) := by
      conv => lhs; rw [← List.take_append_drop j good]
      rw [Frm.row_append, List.drop_eq_getElem_cons hlt, Frm.row_cons]
    generalize hat : (Frm.row (good.take j)).length = i at *
    have hfl := Frm.frm_len good[j]
    refine ⟨(Frm.frm good[j]).take (k - i), ?_, ?_, ?_⟩
    · rw [e, List.take_append, hat, List.take_of_length_le (by omega), List.take_append_of_le_length (by omega)]
    · refine Frm.opn_cut (y := good[j]) (t := (Frm.frm good[j]).drop (k - i)) (hs _ (List.getElem_mem hlt)) (List.take_append_drop _ _).symm ?_
      intro h0
      have := congrArg List.length h0
      rw [List.length_drop] at this
      simp at this
      omega
    · by_cases hik : i = k
      · rw [if_pos hik, show k - i = 0 by omega, List.take_zero]; rfl
      · rw [if_neg hik, endOf_frm _ _ (by omega)]
  · have hjl : j = good.length := by omega
    subst hjl
    rw [List.take_length] at h1 ⊢
    have hk : k = (Frm.row good).length := by omega
    subst hk
    exact ⟨[], by rw [List.take_length, List.append_nil], Frm.opn_nil, by rw [if_pos rfl]; rfl⟩

theorem cut_ex (cut : Int) (L : Nat) (hL : L ≤ 100000) : ∃ k : Nat, k ≤ L ∧ wrap64 ((IntKind.u64.wrap cut).tmod ((L : Int) + 1)) = (k : Int) := by
  have h0 : 0 ≤ IntKind.u64.wrap cut := by rw [IntKind.wrap_u64]; omega
  generalize IntKind.u64.wrap cut = u at *
  rw [Int.tmod_eq_emod_of_nonneg h0]
  have h1 := Int.emod_nonneg u (show (L : Int) + 1 ≠ 0 by omega)
  have h2 := Int.emod_lt_of_pos u (show 0 < (L : Int) + 1 by omega)
  refine ⟨(u % ((L : Int) + 1)).toNat, by omega, ?_⟩
  generalize u % ((L : Int) + 1) = x at *
  unfold wrap64
  omega

/-- Behind j frames that are whole. -/
def CtR (good : List (List Nat)) (k n : Nat) (x y : Value) : Prop :=
  ∃ j : Nat, j ≤ n ∧ x = .int .i64 j ∧ y = .int .i64 ((Frm.row (good.take j)).length : Nat) ∧ (Frm.row (good.take j)).length ≤ k

theorem Cells.front {w : World} {a : Option Addr} {n : Nat} {vs : List Value} (h : Cells w a n vs) (m : Nat) (hm : m ≤ n) : Cells w a m (vs.take m) := by
  obtain ⟨h1, h2⟩ := h
  refine ⟨by rw [List.length_take]; omega, fun h0 => ?_⟩
  obtain ⟨b, off, e, hc⟩ := h2 (by omega)
  refine ⟨b, off, e, fun i hi => ?_⟩
  rw [hc i (by omega), List.getElem?_take, if_pos hi]

set_option maxRecDepth 100000 in
set_option maxHeartbeats 2000000 in
theorem frameCut_walk (a : Option Addr) (na ca : Nat) (la : List (List Nat)) (cut : Int) (w : World) (hA : InLists w a na ca la) (_hc : (Lit.int .i64 cut).wf = true) :
    Calls Try.prog 7 #[.slice a na ca, .int .i64 cut] w fun e w' => e = .returned (.bool true) ∧ Below w.heap.size w w' := by
  have HA := Lib.hid hA
  clear hA
  go_enter Try.func7, Try.ntmps7
  go_wp2_with fail
  with_reducible refine (row_out _ _ _ _ _ HA.out).mono ?_
  rintro e w1 ⟨A1, L1, c1, G1, n1, d1, E1, f1, gvs1, good1, rfl, hR1⟩
  have HR1 := Lib.hid hR1
  clear hR1
  have b1 := HR1.out.bel
  have l1 := HR1.out.lenB
  have m1 := HR1.out.cntB
  obtain ⟨k, hk, hke⟩ := cut_ex cut L1 (by omega)
  go_wp2_with fail
  rw [hke]
  clear hke
  have HX1 := Lib.hid HR1.out.bys
  have HC1 := Lib.hid HR1.out.cells
  have HD1 := Lib.hid HR1.out.reads
  have cb1 := HR1.out.capB.1
  have cb2 := HR1.out.capB.2.1
  have cg1 := HR1.out.capG.1
  have cg2 := HR1.out.capG.2.1
  have HCB2 := Lib.hid cb2
  have HCG2 := Lib.hid cg2
  unfold maxLen at cb2 cg2
  go_loop [9, 10] (CtR good1 k n1) (fun x _ => n1 - (intOf x).toNat)
  case atStart => exact ⟨0, by omega, rfl, rfl, by simp [Frm.row_nil]⟩
  case round =>
    obtain ⟨j, hj, rfl, rfl, hat⟩ := hrel
    have hle := row_take_le good1 j
    rw [HR1.out.len] at hle
    by_cases hgo : j < n1 ∧ (Frm.row (good1.take (j + 1))).length ≤ k
    · obtain ⟨hlt, hen⟩ := hgo
      obtain ⟨be, oe, rfl, hce⟩ := HR1.out.ends.2 (by omega)
      have hek := hce j hlt
      rw [endsOf_at good1 j (by rw [HR1.out.cnt]; exact hlt)] at hek
      have i1 : (j : Int) < (n1 : Int) := by omega
      clear hce
      generalize hp : (Frm.row (good1.take (j + 1))).length = p at *
      have HP := Lib.hid hp
      clear hp
      have i2 : decide (p ≤ k) = true := by simp; omega
      go_wp2
      go_round
      case rel => exact ⟨j + 1, by omega, by go_num, val_int (by rw [HP.out]), by rw [HP.out]; exact hen⟩
      case measure => simp [intOf]; omega
    · obtain ⟨r, hr1, hr2, hr3⟩ := cut_split good1 j k (by rw [HR1.out.cnt]; exact hj) HR1.out.short hat (fun h => by rw [HR1.out.cnt] at h; omega) (by rw [HR1.out.len]; exact hk)
      have hF := HX1.out.front k hk
      rw [hr1] at hF
      have HF := Lib.hid hF
      have HR2 := Lib.hid hr2
      have HR3 := Lib.hid hr3
      clear hF hr1 hr2 hr3
      have hkm : k ≤ 8008 := by omega
      by_cases hlt : j < n1
      · obtain ⟨be, oe, rfl, hce⟩ := HR1.out.ends.2 (by omega)
        have hek := hce j hlt
        rw [endsOf_at good1 j (by rw [HR1.out.cnt]; exact hlt)] at hek
        have i1 : (j : Int) < (n1 : Int) := by omega
        have hnk : ¬ (Frm.row (good1.take (j + 1))).length ≤ k := fun h => hgo ⟨hlt, h⟩
        clear hce hgo
        generalize (Frm.row (good1.take (j + 1))).length = p at *
        have i2 : decide (p ≤ k) = false := by simp; omega
        go_wp2_with fail
        with_reducible refine (all_any _ _ _ _ _ HF.out (by omega) HCB2.out (by omega)).mono ?_
        rintro e w5 ⟨v5, vs5, ls5, r5, hS5, ho5, rfl, hR5, hOA5, hb5⟩
        obtain ⟨hls, hrr⟩ := hS5.uniq ho5 HR2.out (fun x hx => HR1.out.short x (List.mem_of_mem_take hx)) rfl
        rw [hls] at hOA5 ⊢
        rw [hrr, HR3.out]
        obtain ⟨A5, c5, rfl, hC5, hc5, hm5, hz5⟩ := hR5.slice
        have HC5 := Lib.hid hC5
        have HD5 := Lib.hid hOA5.reads
        have HCG := Lib.hid ((HC1.out.below hb5).front j hj)
        have HDG := Lib.hid ((HD1.out.below hb5).take j)
        clear hC5 hOA5 hS5 ho5 hls hrr hR5 HR3 HR2
        generalize (Frm.row (good1.take j)).length = at1 at *
        have ij : (j : Int) ≤ (d1 : Int) := by omega
        obtain ⟨s, q1, hif⟩ : ∃ s : Bool, ((at1 : Int) == (k : Int)) = s ∧ (if at1 = k then 0 else 31) = (if s then 0 else 31 : Nat) := by
          by_cases hak : at1 = k
          · exact ⟨true, by rw [hak]; simp, by rw [if_pos hak]; rfl⟩
          · exact ⟨false, beq_eq_false_iff_ne.2 (by omega), by rw [if_neg hak]; rfl⟩
        rw [hif]
        clear hif
        cases s
        all_goals
          first | rw [if_pos rfl] | rw [if_neg (by decide)]
          go_wp2_with fail
          with_reducible refine (sameLists_any _ _ _ _ _ _ _ _ _ _ _ HC5.out HCG.out HD5.out HDG.out (by omega) (small_len _ (by omega))).mono ?_
          rintro e w6 ⟨rfl, q, rfl⟩
          rw [sameLB_self]
          go_wp2_with fail
          with_reducible refine (known_any _).mono ?_
          rintro e w9 ⟨rfl, hb9⟩
          go_wp2
          go_ret
          have hb05 := b1.trans (hb5.mono b1.size)
          exact ⟨rfl, hb05.trans ((below_drewN (Below.refl _ _) q : Below w.heap.size w5 (w5.drewN q)).trans (hb9.mono hb05.size))⟩
      · clear hgo
        go_wp2_with fail
        with_reducible refine (all_any _ _ _ _ _ HF.out (by omega) HCB2.out (by omega)).mono ?_
        rintro e w5 ⟨v5, vs5, ls5, r5, hS5, ho5, rfl, hR5, hOA5, hb5⟩
        obtain ⟨hls, hrr⟩ := hS5.uniq ho5 HR2.out (fun x hx => HR1.out.short x (List.mem_of_mem_take hx)) rfl
        rw [hls] at hOA5 ⊢
        rw [hrr, HR3.out]
        obtain ⟨A5, c5, rfl, hC5, hc5, hm5, hz5⟩ := hR5.slice
        have HC5 := Lib.hid hC5
        have HD5 := Lib.hid hOA5.reads
        have HCG := Lib.hid ((HC1.out.below hb5).front j hj)
        have HDG := Lib.hid ((HD1.out.below hb5).take j)
        clear hC5 hOA5 hS5 ho5 hls hrr hR5 HR3 HR2
        generalize (Frm.row (good1.take j)).length = at1 at *
        have ij : (j : Int) ≤ (d1 : Int) := by omega
        obtain ⟨s, q1, hif⟩ : ∃ s : Bool, ((at1 : Int) == (k : Int)) = s ∧ (if at1 = k then 0 else 31) = (if s then 0 else 31 : Nat) := by
          by_cases hak : at1 = k
          · exact ⟨true, by rw [hak]; simp, by rw [if_pos hak]; rfl⟩
          · exact ⟨false, beq_eq_false_iff_ne.2 (by omega), by rw [if_neg hak]; rfl⟩
        rw [hif]
        clear hif
        cases s
        all_goals
          first | rw [if_pos rfl] | rw [if_neg (by decide)]
          go_wp2_with fail
          with_reducible refine (sameLists_any _ _ _ _ _ _ _ _ _ _ _ HC5.out HCG.out HD5.out HDG.out (by omega) (small_len _ (by omega))).mono ?_
          rintro e w6 ⟨rfl, q, rfl⟩
          rw [sameLB_self]
          go_wp2_with fail
          with_reducible refine (known_any _).mono ?_
          rintro e w9 ⟨rfl, hb9⟩
          go_wp2
          go_ret
          have hb05 := b1.trans (hb5.mono b1.size)
          exact ⟨rfl, hb05.trans ((below_drewN (Below.refl _ _) q : Below w.heap.size w5 (w5.drewN q)).trans (hb9.mono hb05.size))⟩

end Go.Proofs.Ytaehagejmeimiaa
