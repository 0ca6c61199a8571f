/-
  The contracts of the document's Cut and Add: for every slice of starts.
-/
import Derived.Test.YtngnfgnaagbpjaaRAt
import Derived.Test.YtngnfgnaagbpjaaAddF
namespace Go.Proofs.Ytngnfgnaagbpjaa
open Go.RowKit

theorem tab_one (w : World) (e l : Nat) (he : e < 4294967296) (hl : l < 18446744073709551616) : Tab (w.alloc (.cells (scs e l) 37)) (some ⟨w.heap.size, 0, none⟩) 1 [(e, l)] := by
  refine ⟨rfl, fits_one he hl, fun _ => ⟨_, _, rfl, fun i hi => ?_⟩⟩
  have : i = 0 := by omega
  subst this
  exact ⟨(Lies.made w 37 (scs e l)).cell 0, (Lies.made w 37 (scs e l)).cell 1⟩
theorem take_more (t : Tbl) (k : Nat) (h : k < t.length) : t.take (k + 1) = t.take k ++ [(ep t k, ls t k)] := by
  have e : (ep t k, ls t k) = t[k] := by unfold ep ls; simp [List.getD, h]
  rw [e]
  exact List.take_succ_eq_append_getElem h

def RcuR (w : World) (n c : Nat) (t : Tbl) (x i : Value) (wr : World) : Prop :=
  ∃ k : Nat, k ≤ n ∧ i = .int .i64 k ∧ OwnT wr w.heap.size x (t.take (min k c)) ∧ Below w.heap.size w wr
theorem OwnT.form {w : World} {B : Nat} {v : Value} {t : Tbl} (h : OwnT w B v t) : ∃ A c, v = .slice A t.length c := by
  obtain ⟨A, c, h1, _⟩ := h.slice; exact ⟨A, c, h1⟩

set_option maxRecDepth 100000 in
set_option maxHeartbeats 2000000 in
theorem refCut_any (a : Option Addr) (n cap l : Nat) (t : Tbl) (w : World) (hT : Tab w a n t) (hn : n ≤ 100000) :
    Calls Try.prog 25 #[.slice a n cap, .int .u64 (l : Int)] w (NewT w (cutS t l)) := by
  have CC := Lib.hid (refCheck_any a n cap t w hT (small_len _ (by omega)))
  have HT := Lib.hid hT
  have HLEN := Lib.hid hT.1
  have HS : Hid (cutS t l = if isT t then t.take (cL t l) else []) := Lib.hid rfl
  clear hT
  rcases chk_cases t with ⟨hM, hc⟩ | ⟨hM, hc⟩
  · rw [hc] at CC
    rw [if_pos hM] at HS
    rw [HS.out]
    have hcl := cL_le t l
    rw [HLEN.out] at hcl
    have HLO := Lib.hid (fun i => cL_lo hM (l := l) (i := i))
    have HHI := Lib.hid (fun i => cL_hi (t := t) (l := l) (i := i))
    rw [HLEN.out] at HHI
    clear hM hc HS
    generalize cL t l = c at *
    go_enter Try.func25, Try.ntmps25
    go_wp2_with fail
    with_reducible refine CC.out.mono ?_
    rintro y w2 ⟨rfl, hb⟩
    rw [show ((0 : Nat) : Int) = 0 from rfl]
    have HB := Lib.hid hb
    clear hb CC
    go_wp2_with fail
    go_loopw [5, 7] (RcuR w n c t) (fun _ i _ => n - (intOf i).toNat)
    case atStart => exact ⟨0, by omega, rfl, by rw [Nat.zero_min]; exact OwnT.nil _ _, HB.out⟩
    case round =>
      rename_i x i
      obtain ⟨k, hk, rfl, hown, hbel⟩ := hrel
      have HBE := Lib.hid hbel
      have HOW := Lib.hid hown
      clear hbel hown
      by_cases hlt : k < n
      · obtain ⟨b, off, rfl, hat⟩ := (HT.out.below HBE.out).2.2 (by omega)
        obtain ⟨d0, d1⟩ := hat k hlt
        have hkn : (k : Int) < (n : Int) := by omega
        clear hat
        by_cases h1 : k < c
        · have h2 := HLO.out k h1
          have HTK := Lib.hid (take_more t k (by rw [HLEN.out]; exact hlt))
          obtain ⟨he, hl⟩ := HT.out.2.1 k
          rw [show min k c = k from by omega] at HOW
          have hlen : (t.take k).length = k := by rw [List.length_take, HLEN.out]; omega
          have HTL := Lib.hid hlen
          clear hlen
          generalize ls t k = z at *
          generalize ep t k = e at *
          have g1 : decide ((z : Int) ≤ (l : Int)) = true := by rw [decide_eq_true_iff]; omega
          have g2 : decide (z ≤ l) = true := by rw [decide_eq_true_iff]; omega
          have HO2 := Lib.hid (HOW.out.alloc (.cells (scs e z) 37))
          have HTO := Lib.hid (tab_one wr e z he hl)
          have HB2 := Lib.hid (HBE.out.alloc HBE.out.size (.cells (scs e z) 37))
          go_wp2_with (first
            | ((with_reducible refine wpl_append (some 33) _ _ _ (.tmp 27) (.tmp 32) w.heap.size _ (t.take k) (some ⟨wr.heap.size, 0, none⟩) 1 1 [(e, z)] ?hs ?hx HO2.out HTO.out ?ha ?hm ?hz ?_); (case hs => rfl); (case hx => rfl); (case ha => (intro h; cases h)); (case hm => (rw [HTL.out]; omega)); (case hz => exact HB2.out.size); (intro v' w' ho hg hv)))
          go_roundw
          case rel => exact ⟨k + 1, by omega, by go_num, by rw [show min (k + 1) c = k + 1 from by omega, HTK.out]; exact ho, HO2.out.grows hg HB2.out (Nat.le_refl _) HB2.out.size⟩
          case measure => simp [intOf]; omega
        · have h2 := HHI.out k (by omega) hlt
          generalize ls t k = z at *
          generalize ep t k = e at *
          have g1 : decide ((z : Int) ≤ (l : Int)) = false := by rw [decide_eq_false_iff_not]; omega
          have g2 : decide (z ≤ l) = false := by rw [decide_eq_false_iff_not]; omega
          go_wp2
          go_roundw
          case rel => exact ⟨k + 1, by omega, by go_num, by rw [show min (k + 1) c = min k c from by omega]; exact HOW.out, HBE.out⟩
          case measure => simp [intOf]; omega
      · have hkn : k = n := by omega
        subst hkn
        have hd1 : decide (k < k) = false := by simp
        rw [show min k c = c from by omega] at HOW
        go_wp2
        go_ret
        exact ⟨_, rfl, HOW.out, HBE.out⟩
  · rw [hc] at CC
    rw [if_neg hM] at HS
    rw [HS.out]
    clear hM hc HS
    go_enter Try.func25, Try.ntmps25
    go_wp2_with fail
    with_reducible refine CC.out.mono ?_
    rintro y w2 ⟨rfl, hb⟩
    rw [show ((60 : Nat) : Int) = 60 from rfl]
    have HB := Lib.hid hb
    clear hb CC
    by_cases h0 : 0 < n
    · go_wp2_with fail
      go_loopw [5, 7] (fun x i wr => x = .slice none 0 0 ∧ i = .int .i64 0 ∧ Below w.heap.size w wr) (fun _ i _ => n - (intOf i).toNat)
      case atStart => exact ⟨rfl, rfl, HB.out⟩
      case round =>
        obtain ⟨rfl, rfl, hbel⟩ := hrel
        have HBE := Lib.hid hbel
        clear hbel
        have hd1 : decide ((0 : Int) < (n : Int)) = true := by rw [decide_eq_true_iff]; omega
        have hd2 : decide (0 < n) = true := by rw [decide_eq_true_iff]; omega
        go_wp2
        go_ret
        exact ⟨_, rfl, OwnT.nil _ _, HBE.out⟩
    · go_wp2_with fail
      go_loopw [5, 7] (fun x i wr => x = .slice none 0 0 ∧ i = .int .i64 0 ∧ Below w.heap.size w wr) (fun _ i _ => n - (intOf i).toNat)
      case atStart => exact ⟨rfl, rfl, HB.out⟩
      case round =>
        obtain ⟨rfl, rfl, hbel⟩ := hrel
        have HBE := Lib.hid hbel
        clear hbel
        have hd1 : decide ((0 : Int) < (n : Int)) = false := by rw [decide_eq_false_iff_not]; omega
        have hd2 : decide (0 < n) = false := by rw [decide_eq_false_iff_not]; omega
        go_wp2
        go_ret
        exact ⟨_, rfl, OwnT.nil _ _, HBE.out⟩

set_option maxRecDepth 100000 in
set_option maxHeartbeats 2000000 in
theorem refAdd_any (a : Option Addr) (n cap e l : Nat) (t : Tbl) (w : World) (hT : Tab w a n t) (hA : a = none → cap = 0) (hn : n ≤ 100000) (he : e < 4294967296) (hl : l < 18446744073709551616) :
    Calls Try.prog 24 #[.slice a n cap, .agg #[.int .u32 (e : Int), .int .u64 (l : Int)]] w (AddPost w t (e, l)) := by
  have HCA := Lib.hid hA
  have HT := Lib.hid (hT.below (below1 w (.cells (scs e l) 37)))
  have HLEN := Lib.hid hT.1
  have HL1 := Lib.hid (Lies.made w 37 (scs e l))
  have HB1 := Lib.hid (below1 w (.cells (scs e l) 37))
  have hlen : (t ++ [(e, l)]).length = n + 1 := by rw [List.length_append, hT.1]; rfl
  have HLEN1 := Lib.hid hlen
  have HN := Lib.hid (OwnT.nil (w.alloc (.cells (scs e l) 37)) (w.alloc (.cells (scs e l) 37)).heap.size)
  have hz1 : w.heap.size + 1 = (w.alloc (.cells (scs e l) 37)).heap.size := by simp
  have HZ1 := Lib.hid hz1
  clear hT hA hlen hz1
  have HPOST : Hid (∀ v w8, OwnT w8 w.heap.size v (t ++ [(e, l)]) → Below w.heap.size w w8 → Calls Try.prog 16 #[v] w8 fun x w' => x = .returned (.int .i64 (chk (t ++ [(e, l)]) : Nat)) ∧ Below w8.heap.size w8 w') := by
    refine Lib.hid fun v w8 ho hb => ?_
    obtain ⟨A, c', h1, h2, _⟩ := ho.slice
    rw [HLEN1.out] at h1 h2
    subst h1
    exact refCheck_any _ _ _ _ _ h2 (small_len _ (by omega))
  have HADD : Hid (addS t (e, l) = if isT (t ++ [(e, l)]) then t ++ [(e, l)] else []) := Lib.hid rfl
  go_enter Try.func24, Try.ntmps24
  go_wp2_with (first
    | ((with_reducible refine wpl_append (some 10) _ _ _ (.tmp 8) (.tmp 9) (w.alloc (.cells (scs e l) 37)).heap.size _ [] a n cap t ?hs ?hx HN.out HT.out HCA.out ?hm (Nat.le_refl _) ?_); (case hs => rfl); (case hx => rfl); (case hm => simpa using (show n ≤ 1000000 by omega)); (intro v2 w2 ho2 hg2 hv2); (rw [List.nil_append] at ho2); (have HB2 := Lib.hid (HN.out.grows hg2 HB1.out (by simp) (by simp))); (have HL2 := Lib.hid (HL1.out.grown hg2 (by intro h; cases h))); (have HO2 := Lib.hid (ho2.mono (B' := w.heap.size) (by simp))); (have HTO := Lib.hid (tab_one w2 e l he hl)); (have HO3 := Lib.hid (HO2.out.alloc (.cells (scs e l) 37))); (have HB3 := Lib.hid (HB2.out.alloc HB2.out.size (.cells (scs e l) 37))); (have p0 := HL2.out.cell 0); (have p1 := HL2.out.cell 1); (simp only [List.getElem?_toArray, List.getElem?_cons_zero, List.getElem?_cons_succ] at p0 p1); (clear ho2 hg2 hv2))
    | ((with_reducible refine wpl_append (some 14) _ _ _ (.tmp 11) (.tmp 13) w.heap.size v2 t (some ⟨w2.heap.size, 0, none⟩) 1 1 [(e, l)] ?hs ?hx HO3.out HTO.out ?ha ?hm ?hz ?_); (case hs => rfl); (case hx => rfl); (case ha => (intro h; cases h)); (case hm => (rw [HLEN.out]; omega)); (case hz => exact HB3.out.size); (intro v4 w4 ho4 hg4 hv4)))
  have HB4 := Lib.hid (HO3.out.grows hg4 HB3.out (Nat.le_refl _) HB3.out.size)
  have HO4 := Lib.hid ho4
  have C8 := Lib.hid (HPOST.out v4 w4 ho4 HB4.out)
  clear ho4 hg4 hv4 HPOST p0 p1
  rcases chk_cases (t ++ [(e, l)]) with ⟨hM, hc⟩ | ⟨hM, hc⟩
  · rw [hc] at C8
    rw [if_pos hM] at HADD
    have HC := Lib.hid hc
    clear hM hc
    go_wp2_with fail
    with_reducible refine C8.out.mono ?_
    rintro x w9 ⟨rfl, hb9⟩
    rw [show ((0 : Nat) : Int) = 0 from rfl]
    go_wp2
    go_ret2
    exact ⟨_, by rw [HC.out]; rfl, by rw [HADD.out]; exact HO4.out.belowT hb9, HB4.out.trans (hb9.mono HB4.out.size)⟩
  · rw [hc] at C8
    rw [if_neg hM] at HADD
    have HC := Lib.hid hc
    clear hM hc
    go_wp2_with fail
    with_reducible refine C8.out.mono ?_
    rintro x w9 ⟨rfl, hb9⟩
    rw [show ((60 : Nat) : Int) = 60 from rfl]
    go_wp2
    go_ret2
    exact ⟨_, by rw [HC.out]; rfl, by rw [HADD.out]; exact OwnT.nil _ _, HB4.out.trans (hb9.mono HB4.out.size)⟩

end Go.Proofs.Ytngnfgnaagbpjaa
