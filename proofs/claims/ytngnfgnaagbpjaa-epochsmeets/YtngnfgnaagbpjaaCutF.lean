/-
  The contracts of slices.Clone, epochs.Cut and copied.
-/
import Derived.Test.YtngnfgnaagbpjaaAtEnd
import Derived.Laws.Cover3
namespace Go.Proofs.Ytngnfgnaagbpjaa
open Go.RowKit

def NewT (w : World) (t : Tbl) (x : Ending) (w' : World) : Prop := ∃ v, x = .returned v ∧ OwnT w' w.heap.size v t ∧ Below w.heap.size w w'

theorem Tab.nil_of {w : World} {n : Nat} {t : Tbl} (h : Tab w none n t) : n = 0 ∧ t = [] := by
  have hm : n = 0 := by
    refine Classical.byContradiction fun h0 => ?_
    obtain ⟨b, off, e, _⟩ := h.2.2 (by omega)
    cases e
  exact ⟨hm, List.eq_nil_of_length_eq_zero (by rw [h.1]; exact hm)⟩
theorem OwnT.made (w : World) (B : Nat) (hB : B ≤ w.heap.size) : OwnT (w.alloc (.cells #[] 37)) B (.slice (some ⟨w.heap.size, 0, none⟩) 0 0) [] :=
  ⟨World.ownsRow_made w #[] 0 hB (by unfold maxLen; omega) rfl, (Tab.none_ w).2.1⟩

theorem run_nil22 (a : Option Addr) (n c : Nat) (w : World) : (binOp .eql 22 (.slice a n c) (.slice none 0 0)).run Try.prog w = .ok (.bool a.isNone) w := by
  have h := run_equal_slice_nil (P := Try.prog) w 22 37 a n c Try.underlying22
  simp only [binOp, Sem.run_bind, h, Result.andThen_ok, Sem.run_pure]
set_option maxHeartbeats 400000 in
theorem clone_any (a : Option Addr) (n cap : Nat) (t : Tbl) (w : World) (hT : Tab w a n t) (hA : a = none → cap = 0) (hn : n ≤ 100000) :
    Calls Try.prog 31 #[.slice a n cap] w (NewT w t) := by
  rcases a with _ | ad
  · obtain ⟨rfl, rfl⟩ := hT.nil_of
    have hc := hA rfl
    subst hc
    clear hT hA
    have hq := run_nil22 none 0 0
    rw [show (none : Option Addr).isNone = true from rfl] at hq
    go_enter Try.func31, Try.ntmps31
    go_wp2
    go_ret
    exact ⟨_, rfl, OwnT.nil _ _, Below.refl _ _⟩
  · have HT := Lib.hid (hT.below (below1 w (.cells #[] 37)))
    have HO := Lib.hid (OwnT.made w w.heap.size (Nat.le_refl _))
    clear hT hA
    have hq := run_nil22 (some ad) n cap
    rw [show (some ad : Option Addr).isNone = false from rfl] at hq
    go_enter Try.func31, Try.ntmps31
    go_wp2_with (first
      | ((with_reducible refine wpl_append (some 7) _ _ _ (.tmp 5) (.tmp 6) w.heap.size _ [] (some ad) n cap t ?hs ?hx HO.out HT.out ?ha ?hm ?hz ?_); (case hs => rfl); (case hx => rfl); (case ha => (intro h; cases h)); (case hm => simpa using (show n ≤ 1000000 by omega)); (case hz => simp); (intro v' w' ho hg hv)))
    go_ret
    refine ⟨_, rfl, ho, HO.out.grows hg (below1 w _) (Nat.le_refl _) (by simp)⟩

set_option maxHeartbeats 1000000 in
theorem cut_any (a : Option Addr) (n cap l : Nat) (t : Tbl) (w : World) (hT : Tab w a n t) (hA : a = none → cap = 0) (hnc : n ≤ cap) (hn : n ≤ 100000) :
    Calls Try.prog 22 #[.slice a n cap, .int .u64 (l : Int)] w (NewT w (cutS t l)) := by
  have CC := Lib.hid (check_any a n cap t w hT (small_len _ (by omega)))
  have HT := Lib.hid hT
  have HLEN := Lib.hid hT.1
  have HCA := Lib.hid hA
  clear hT hA
  have HS : Hid (cutS t l = if isT t then t.take (cL t l) else []) := Lib.hid rfl
  rcases chk_cases t with ⟨hM, hc⟩ | ⟨hM, hc⟩
  · rw [hc] at CC
    rw [if_pos hM] at HS
    have CS := Lib.hid (fun W (h : Tab W a n t) => begun_any a n cap l t W h (by omega) hM)
    have hle := cL_le t l
    rw [HLEN.out] at hle
    rw [HS.out]
    clear hM hc HS
    generalize cL t l = c at *
    have hc1 : (c : Int) ≤ (cap : Int) := by omega
    go_enter Try.func22, Try.ntmps22
    go_wp2_with fail
    with_reducible refine CC.out.mono ?_
    rintro y w2 ⟨rfl, hb⟩
    rw [show ((0 : Nat) : Int) = 0 from rfl]
    have HB := Lib.hid hb
    clear hb
    go_wp2_with fail
    with_reducible refine (CS.out _ (HT.out.below HB.out)).mono ?_
    rintro y w3 ⟨rfl, hb⟩
    have HB3 := Lib.hid (HB.out.trans (hb.mono HB.out.size))
    have CL := Lib.hid (clone_any a c cap (t.take c) w3 ((HT.out.below HB3.out).front c hle) HCA.out (by omega))
    clear hb CS CC
    go_wp2_with fail
    with_reducible refine CL.out.mono ?_
    rintro y w4 ⟨v, rfl, ho, hb⟩
    clear CL
    go_wp2
    go_ret
    exact ⟨_, rfl, ho.mono HB3.out.size, HB3.out.trans (hb.mono HB3.out.size)⟩
  · rw [hc] at CC
    rw [if_neg hM] at HS
    rw [HS.out]
    clear hM hc HS
    go_enter Try.func22, Try.ntmps22
    go_wp2_with fail
    with_reducible refine CC.out.mono ?_
    rintro y w2 ⟨rfl, hb⟩
    rw [show ((60 : Nat) : Int) = 60 from rfl]
    go_wp2
    go_ret
    exact ⟨_, rfl, OwnT.nil _ _, hb⟩

set_option maxHeartbeats 400000 in
theorem copied_any (a : Option Addr) (n cap : Nat) (t : Tbl) (w : World) (hT : Tab w a n t) (hA : a = none → cap = 0) (hn : n ≤ 100000) :
    Calls Try.prog 12 #[.slice a n cap] w (NewT w t) := by
  have HT := Lib.hid hT
  have HCA := Lib.hid hA
  have HO := Lib.hid (OwnT.nil w w.heap.size)
  clear hT hA
  go_enter Try.func12, Try.ntmps12
  go_wp2_with (first
    | ((with_reducible refine wpl_append (some 6) _ _ _ (.tmp 4) (.tmp 5) w.heap.size _ [] a n cap t ?hs ?hx HO.out HT.out HCA.out ?hm (Nat.le_refl _) ?_); (case hs => rfl); (case hx => rfl); (case hm => simpa using (show n ≤ 1000000 by omega)); (intro v' w' ho hg hv)))
  go_ret
  exact ⟨_, rfl, ho, HO.out.grows hg (Below.refl _ _) (Nat.le_refl _) (Nat.le_refl _)⟩

def manyB (n m : Nat) : Bool := decide (500 < n ∨ 500 < m)
theorem many_any (A B : Option Addr) (n m cA cB : Nat) (w : World) : Calls Try.prog 10 #[.slice A n cA, .slice B m cB] w fun x w' => x = .returned (.bool (manyB n m)) ∧ w = w' := by
  unfold manyB
  by_cases h1 : 500 < n
  · rw [show decide (500 < n ∨ 500 < m) = true from by rw [decide_eq_true_iff]; omega]
    go_enter Try.func10, Try.ntmps10
    go_wp2
    go_ret
    exact ⟨rfl, rfl⟩
  · by_cases h2 : 500 < m
    · rw [show decide (500 < n ∨ 500 < m) = true from by rw [decide_eq_true_iff]; omega]
      go_enter Try.func10, Try.ntmps10
      go_wp2
      go_ret
      exact ⟨ret_bool (by simp; omega), rfl⟩
    · rw [show decide (500 < n ∨ 500 < m) = false from by rw [decide_eq_false_iff_not]; omega]
      go_enter Try.func10, Try.ntmps10
      go_wp2
      go_ret
      exact ⟨ret_bool (by simp; omega), rfl⟩

end Go.Proofs.Ytngnfgnaagbpjaa
