/-
  The walk of EpochsCuts, out of the contracts.
-/
import Derived.Test.YtngnfgnaagbpjaaKnown
import Derived.Test.YtngnfgnaagbpjaaSame
import Derived.Test.YtngnfgnaagbpjaaIn
namespace Go.Proofs.Ytngnfgnaagbpjaa
open Go.RowKit
set_option linter.unusedVariables false

theorem grown_put {a w : World} {g i : Nat} {v : Value} {row : Option Nat} (h : a.grownBy w row) (hr : row = some g) : a.grownBy (w.setCell ⟨g, i, none⟩ v) row :=
  ⟨h.os, h.tape, h.output, Nat.le_trans h.size (by simp [World.setCell]), fun k h1 h2 => (Below.heap_setCell w ⟨g, i, none⟩ v k (fun e => h2 (by rw [hr, e]))).trans (h.block k h1 h2)⟩
theorem OwnT.away {w w' : World} {B : Nat} {v : Value} {t : Tbl} {row : Option Nat} (h : OwnT w B v t) (hg : w.grownBy w' row) (hr : ∀ k, v.ownBlock = some k → some k ≠ row) : OwnT w' B v t := by
  obtain ⟨⟨h0, h1⟩, h2⟩ := h
  refine ⟨⟨h0, ?_⟩, h2⟩
  rcases h1 with h1 | ⟨g, cap, cur, hv, hg0, hh, hrr⟩
  · exact .inl h1
  · exact .inr ⟨g, cap, cur, hv, hg0, Lies.grown (t := 37) hh hg (hr g (by rw [hv]; rfl)), hrr⟩
theorem OwnT.lt {w : World} {B : Nat} {v : Value} {t : Tbl} (h : OwnT w B v t) : ∀ g, v.ownBlock = some g → g < w.heap.size := by
  intro g hg
  rcases h.1.2 with ⟨rfl, _⟩ | ⟨g', cap, cur, rfl, _, hh, _⟩
  · cases hg
  · have : g' = g := by simpa [Value.ownBlock] using hg
    subst this
    exact Lies.lt (t := 37) hh
/-- A row that may be written. -/
def Wri (w : World) (A : Option Addr) (n : Nat) : Prop := 0 < n → ∃ g cur, A = some ⟨g, 0, none⟩ ∧ Lies w g 37 cur ∧ n * 2 ≤ cur.size
theorem OwnT.wri {w : World} {B n c : Nat} {A : Option Addr} {t : Tbl} (h : OwnT w B (.slice A n c) t) : Wri w A n := by
  intro h0
  obtain ⟨⟨_, h1 | ⟨g, cap, cur, hv, hb, hg, hn, hm, hs, ht⟩⟩, hf⟩ := h
  · obtain ⟨h1, _⟩ := h1
    injection h1 with _ h2 _
    omega
  · injection hv with q1 q2 q3
    subst q1 q2 q3
    exact ⟨g, cur, rfl, hg, by rw [hs]; omega⟩
def WrR (w7 : World) (row A : Option Nat) (P : Option Addr) (n : Nat) (i : Value) (wr : World) : Prop :=
  ∃ k : Nat, k ≤ n ∧ i = .int .i64 k ∧ w7.grownBy wr row ∧ Wri wr P n

theorem cut_len (t : Tbl) (x : Nat) : (cutS t x).length ≤ t.length := by
  unfold cutS
  split
  · rw [List.length_take]; omega
  · simp
theorem add_len (t : Tbl) (s : Nat × Nat) : (addS t s).length ≤ t.length + 1 := by
  unfold addS
  split
  · simp
  · simp

set_option maxRecDepth 100000 in
set_option maxHeartbeats 8000000 in
theorem epochsCuts_walk (a : Option Addr) (n cap : Nat) (t : Tbl) (l e z : Nat) (w : World) (hI : InTab w a n cap t) (hl : l < 18446744073709551616) (he : e < 4294967296) (hz : z < 18446744073709551616) :
    Calls Try.prog 5 #[.slice a n cap, .int .u64 (l : Int), .agg (scs e z)] w fun x w' => x = .returned (.bool true) ∧ Below w.heap.size w w' := by
  obtain ⟨hT, hnc, hcm, hA⟩ := hI
  have HT := Lib.hid (fun W (h : Below w.heap.size w W) => hT.below h)
  have HLEN := Lib.hid hT.1
  have HCA := Lib.hid hA
  have B0 := Lib.hid (below1 w (.cells (scs e z) 37))
  have HBX := Lib.hid (Lies.made w 37 (scs e z))
  have HBC := Lib.hid (fun W (h : Below (w.alloc (.cells (scs e z) 37)).heap.size (w.alloc (.cells (scs e z) 37)) W) => (⟨(HBX.out.below h (by simp)).cell 0, (HBX.out.below h (by simp)).cell 1⟩ : W.cell? ⟨w.heap.size, 0, none⟩ = some (.int .u32 (e : Int)) ∧ W.cell? ⟨w.heap.size, 1, none⟩ = some (.int .u64 (z : Int))))
  clear hT hA
  have C0 := Lib.hid (many_any a none n 0 cap 0 (w.alloc (.cells (scs e z) 37)))
  by_cases hn : 500 < n
  · rw [show manyB n 0 = true from by unfold manyB; rw [decide_eq_true_iff]; omega] at C0
    go_enter Try.func5, Try.ntmps5
    go_wp2_with fail
    with_reducible refine (C0.out).mono ?_
    rintro x w1 ⟨rfl, rfl⟩
    go_wp2_with fail
    with_reducible refine (known_any _).mono ?_
    rintro x w2 ⟨rfl, hb⟩
    have B2 := Lib.hid (B0.out.trans (hb.mono B0.out.size))
    clear hb
    go_wp2
    go_ret
    exact ⟨rfl, B2.out⟩
  · rw [show manyB n 0 = false from by unfold manyB; rw [decide_eq_false_iff_not]; omega] at C0
    have C1 := Lib.hid (copied_any a n cap t (w.alloc (.cells (scs e z) 37)) (HT.out _ B0.out) HCA.out (by omega))
    go_enter Try.func5, Try.ntmps5
    go_wp2_with fail
    with_reducible refine (C0.out).mono ?_
    rintro x w0 ⟨rfl, rfl⟩
    go_wp2_with fail
    with_reducible refine (C1.out).mono ?_
    rintro x w1 ⟨v, rfl, ho, hb⟩
    have X1 := Lib.hid hb
    have B1 := Lib.hid (B0.out.trans (hb.mono B0.out.size))
    obtain ⟨X, cX, rfl, hX, hnX, _, hXA⟩ := ho.slice
    rw [HLEN.out] at hX hnX ⊢
    have HX := Lib.hid hX
    have HXA := Lib.hid hXA
    have C2 := Lib.hid (cut_any X n cX l t w1 hX hXA hnX (by omega))
    clear hb ho hX hXA C0 C1
    go_wp2_with fail
    with_reducible refine (C2.out).mono ?_
    rintro x w2 ⟨v, rfl, ho, hb⟩
    have Y2 := Lib.hid hb
    have X2 := Lib.hid (X1.out.trans (hb.mono X1.out.size))
    have B2 := Lib.hid (B1.out.trans (hb.mono B1.out.size))
    obtain ⟨A, cA, rfl, _⟩ := ho.slice
    have hna := cut_len t l
    rw [HLEN.out] at hna
    have HOA := Lib.hid ho
    have C3 := Lib.hid (add_any X n cX e z t w2 (HX.out.below hb) HXA.out (by omega) he hz)
    obtain ⟨f0, f1⟩ := HBC.out w2 X2.out
    clear hb ho C2
    obtain ⟨ta, hta⟩ : ∃ ta, cutS t l = ta := ⟨_, rfl⟩
    rw [hta] at HOA hna ⊢
    have HTA := Lib.hid hta
    clear hta
    obtain ⟨na, hnae⟩ : ∃ na, ta.length = na := ⟨_, rfl⟩
    rw [hnae] at HOA hna ⊢
    have HNA := Lib.hid hnae
    clear hnae
    go_wp2_with fail
    with_reducible refine (C3.out).mono ?_
    rintro x w3 ⟨v, rfl, ho, hb⟩
    have Y3 := Lib.hid (Y2.out.trans (hb.mono Y2.out.size))
    have Z3 := Lib.hid hb
    have X3 := Lib.hid (X2.out.trans (hb.mono X2.out.size))
    have B3 := Lib.hid (B2.out.trans (hb.mono B2.out.size))
    obtain ⟨Bb, cB, rfl, _⟩ := ho.slice
    have hnb := add_len t (e, z)
    rw [HLEN.out] at hnb
    have HOB := Lib.hid ho
    have C4 := Lib.hid (refAdd_any a n cap e z t w3 (HT.out _ B3.out) HCA.out (by omega) he hz)
    clear f0 f1
    obtain ⟨f0, f1⟩ := HBC.out w3 X3.out
    clear hb ho C3
    unfold AddPost at C4
    generalize addS t (e, z) = tb at *
    generalize chk (t ++ [(e, z)]) = nc at *
    obtain ⟨nb, hnbe⟩ : ∃ nb, tb.length = nb := ⟨_, rfl⟩
    rw [hnbe] at HOB hnb ⊢
    have HNB := Lib.hid hnbe
    clear hnbe
    go_wp2_with fail
    with_reducible refine (C4.out).mono ?_
    rintro x w4 ⟨v, rfl, ho, hb⟩
    have Y4 := Lib.hid (Y3.out.trans (hb.mono Y3.out.size))
    have Z4 := Lib.hid (Z3.out.trans (hb.mono Z3.out.size))
    have V4 := Lib.hid hb
    have B4 := Lib.hid (B3.out.trans (hb.mono B3.out.size))
    obtain ⟨D, cD, rfl, hD, _⟩ := ho.slice
    rw [HNB.out] at hD ⊢
    have HD := Lib.hid hD
    have cc := refCut_any a n cap l t w4 (HT.out _ B4.out) (by omega)
    rw [HTA.out] at cc
    have C5 := Lib.hid cc
    clear hb ho hD C4 f0 f1 cc
    go_wp2_with fail
    with_reducible refine (C5.out).mono ?_
    rintro x w5 ⟨v, rfl, ho, hb⟩
    have Y5 := Lib.hid (Y4.out.trans (hb.mono Y4.out.size))
    have Z5 := Lib.hid (Z4.out.trans (hb.mono Z4.out.size))
    have V5 := Lib.hid (V4.out.trans (hb.mono V4.out.size))
    have B5 := Lib.hid (B4.out.trans (hb.mono B4.out.size))
    have HD5 := Lib.hid (HD.out.below hb)
    obtain ⟨E, cE', rfl, hE, _⟩ := ho.slice
    rw [HNA.out] at hE ⊢
    obtain ⟨A_, cA_, qe, hAt, _⟩ := ((HOA.out.belowT Z5.out)).slice
    rw [HNA.out] at qe hAt
    injection qe with q1 q2 q3
    subst q1 q3
    have C6 := Lib.hid (same_any A E na na cA cE' ta ta w5 hAt hE (by omega) (by omega))
    rw [show decide (ta = ta) = true from by simp] at C6
    clear hb ho hE hAt C5
    go_wp2_with fail
    with_reducible refine (C6.out).mono ?_
    rintro x w6 ⟨rfl, hb⟩
    have Y6 := Lib.hid (Y5.out.trans (hb.mono Y5.out.size))
    have Z6 := Lib.hid (Z5.out.trans (hb.mono Z5.out.size))
    have V6 := Lib.hid (V5.out.trans (hb.mono V5.out.size))
    have B6 := Lib.hid (B5.out.trans (hb.mono B5.out.size))
    obtain ⟨B_, cB_, qe, hBt, _⟩ := ((HOB.out.belowT V6.out)).slice
    rw [HNB.out] at qe hBt
    injection qe with q1 q2 q3
    subst q1 q3
    have C7 := Lib.hid (same_any Bb D nb nb cB cD tb tb w6 hBt (HD5.out.below hb) (by omega) (by omega))
    rw [show decide (tb = tb) = true from by simp] at C7
    clear hb hBt C6
    go_wp2_with fail
    with_reducible refine (C7.out).mono ?_
    rintro x w7 ⟨rfl, hb⟩
    have Y7 := Lib.hid (Y6.out.trans (hb.mono Y6.out.size))
    have Z7 := Lib.hid (Z6.out.trans (hb.mono Z6.out.size))
    have V7 := Lib.hid (V6.out.trans (hb.mono V6.out.size))
    have B7 := Lib.hid (B6.out.trans (hb.mono B6.out.size))
    have C8 := Lib.hid (same_any X a n n cX cap t t w7 (HX.out.below Y7.out) (HT.out _ B7.out) (by omega) (by omega))
    rw [show decide (t = t) = true from by simp] at C8
    have gx : (((nc : Nat) : Int) != ((nc : Nat) : Int)) = false := by simp
    clear hb C7
    go_wp2_with fail
    with_reducible refine (C8.out).mono ?_
    rintro x w8 ⟨rfl, hb⟩
    have Y8 := Lib.hid (Y7.out.trans (hb.mono Y7.out.size))
    have Z8 := Lib.hid (Z7.out.trans (hb.mono Z7.out.size))
    have V8 := Lib.hid (V7.out.trans (hb.mono V7.out.size))
    have B8 := Lib.hid (B7.out.trans (hb.mono B7.out.size))
    have HOA8 := Lib.hid (HOA.out.belowT Z8.out)
    have HOB8 := Lib.hid (HOB.out.belowT V8.out)
    have HWa := Lib.hid HOA8.out.wri
    have HNE : Hid (∀ k, (Value.slice Bb nb cB).ownBlock = some k → some k ≠ (Value.slice A na cA).ownBlock) := Lib.hid (fun k h1 h2 => by have g1 := HOB.out.block k h1; have g2 := HOA.out.lt k h2.symm; omega)
    clear hb C8 gx HD HD5
    go_wp2_with fail
    go_loopw [13] (WrR w8 (Value.slice A na cA).ownBlock none A na) (fun i _ => na - (intOf i).toNat)
    case atStart => exact ⟨0, by omega, rfl, World.grownBy.refl _ _, HWa.out⟩
    case round =>
      obtain ⟨k, hk, rfl, hgr, hwr⟩ := hrel
      have HG := Lib.hid hgr
      have HWR := Lib.hid hwr
      clear hgr hwr
      by_cases hlt : k < na
      · obtain ⟨g, cur, rfl, hL, hs⟩ := HWR.out (by omega)
        have c1 := hL.cell (k * 2 + 1)
        have c2 := hL.free (k * 2 + 1)
        obtain ⟨y, hy⟩ : ∃ y, cur[k * 2 + 1]? = some y := ⟨_, Array.getElem?_eq_getElem (by omega)⟩
        rw [hy] at c1
        have hkn : (k : Int) < (na : Int) := by omega
        have HL := Lib.hid hL
        clear hy hL
        go_wp2
        go_roundw
        case rel => exact ⟨k + 1, by omega, by go_num, grown_put HG.out rfl, fun _ => ⟨g, _, rfl, HL.out.put (k * 2 + 1) _, by simpa using hs⟩⟩
        case measure => simp [intOf]; omega
      · have hkn : ¬ k < na := hlt
        have hd1 : decide (k < na) = false := by rw [decide_eq_false_iff_not]; omega
        have hd2 : decide ((k : Int) < (na : Int)) = false := by rw [decide_eq_false_iff_not]; omega
        have w9e : wr = wr := rfl
        have Y9 := Lib.hid (Y8.out.grown HG.out Y8.out.size (fun q hq => HOA.out.block q hq))
        have HOB9 := Lib.hid (HOB8.out.away HG.out HNE.out)
        have HWb := Lib.hid HOB9.out.wri
        generalize hw9 : wr = w9 at *
        clear hw9 w9e
        go_wp2_with fail
        go_loopw [14] (WrR w9 (Value.slice Bb nb cB).ownBlock none Bb nb) (fun i _ => nb - (intOf i).toNat)
        case atStart => exact ⟨0, by omega, rfl, World.grownBy.refl _ _, HWb.out⟩
        case round =>
          obtain ⟨k, hk, rfl, hgr, hwr⟩ := hrel
          have HG := Lib.hid hgr
          have HWR := Lib.hid hwr
          clear hgr hwr
          by_cases hlt : k < nb
          · obtain ⟨g, cur, rfl, hL, hs⟩ := HWR.out (by omega)
            have c1 := hL.cell (k * 2)
            have c2 := hL.free (k * 2)
            obtain ⟨y, hy⟩ : ∃ y, cur[k * 2]? = some y := ⟨_, Array.getElem?_eq_getElem (by omega)⟩
            rw [hy] at c1
            have hkn : (k : Int) < (nb : Int) := by omega
            have HL := Lib.hid hL
            clear hy hL
            go_wp2
            go_roundw
            case rel => exact ⟨k + 1, by omega, by go_num, grown_put HG.out rfl, fun _ => ⟨g, _, rfl, HL.out.put (k * 2) _, by simpa using hs⟩⟩
            case measure => simp [intOf]; omega
          · have hkn : ¬ k < nb := hlt
            have hd1 : decide (k < nb) = false := by rw [decide_eq_false_iff_not]; omega
            have hd2 : decide ((k : Int) < (nb : Int)) = false := by rw [decide_eq_false_iff_not]; omega
            have Y10 := Lib.hid (Y9.out.grown HG.out Y9.out.size (fun q hq => Nat.le_trans Y2.out.size (HOB.out.block q hq)))
            have B10 := Lib.hid (B1.out.trans (Y10.out.mono B1.out.size))
            have C9 := Lib.hid (same_any X a n n cX cap t t wr (HX.out.below Y10.out) (HT.out _ B10.out) (by omega) (by omega))
            rw [show decide (t = t) = true from by simp] at C9
            go_wp2_with fail
            with_reducible refine (C9.out).mono ?_
            rintro x w11 ⟨rfl, hb⟩
            have B11 := Lib.hid (B10.out.trans (hb.mono B10.out.size))
            clear hb
            go_wp2_with fail
            with_reducible refine (known_any _).mono ?_
            rintro x w12 ⟨rfl, hb⟩
            go_wp2
            go_ret
            exact ⟨rfl, B11.out.trans (hb.mono B11.out.size)⟩

end Go.Proofs.Ytngnfgnaagbpjaa
