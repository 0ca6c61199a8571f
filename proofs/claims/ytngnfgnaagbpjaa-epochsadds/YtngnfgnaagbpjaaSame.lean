/-
  The contract of the document's Same: for all slices of starts.
-/
import Derived.Test.YtngnfgnaagbpjaaEq
namespace Go.Proofs.Ytngnfgnaagbpjaa
open Go.RowKit

def SmR (w : World) (n : Nat) (a b : Tbl) (i : Value) (wr : World) : Prop :=
  ∃ k : Nat, k ≤ n ∧ i = .int .i64 k ∧ (∀ j, j < k → sameAt a b j) ∧ Below w.heap.size w wr

theorem same_all {a b : Tbl} (hl : a.length = b.length) (h : ∀ j, j < a.length → sameAt a b j) : a = b := by
  refine List.ext_getElem hl (fun i h1 h2 => ?_)
  obtain ⟨e, l⟩ := h i h1
  unfold ep at e
  unfold ls at l
  simp only [List.getD, List.getElem?_eq_getElem h1, List.getElem?_eq_getElem h2, Option.getD_some] at e l
  exact Prod.ext e l

set_option maxRecDepth 100000 in
set_option maxHeartbeats 2000000 in
theorem same_any (A B : Option Addr) (n m cA cB : Nat) (a b : Tbl) (w : World) (hA : Tab w A n a) (hB : Tab w B m b) (hn : n ≤ 1000000) (hm : m ≤ 1000000) :
    Calls Try.prog 19 #[.slice A n cA, .slice B m cB] w fun x w' => x = .returned (.bool (decide (a = b))) ∧ Below w.heap.size w w' := by
  have HA := Lib.hid hA
  have HB := Lib.hid hB
  have HLA := Lib.hid hA.1
  have HLB := Lib.hid hB.1
  clear hA hB
  by_cases hmn : n = m
  · subst hmn
    have HQ : Hid (∀ v : Bool, (v = true ↔ a = b) → v = decide (a = b)) := Lib.hid (fun v h => by rw [Bool.eq_iff_iff, h, decide_eq_true_iff])
    generalize decide (a = b) = r at *
    go_enter Try.func19, Try.ntmps19
    go_wp2_with fail
    go_loopw [5] (SmR w n a b) (fun i _ => n - (intOf i).toNat)
    case atStart => exact ⟨0, by omega, rfl, (fun j h => by omega), Below.refl _ _⟩
    case round =>
      obtain ⟨k, hk, rfl, hall, hbel⟩ := hrel
      have HALL := Lib.hid hall
      have HBE := Lib.hid hbel
      clear hall hbel
      by_cases hlt : k < n
      · obtain ⟨b1, o1, rfl, hat1⟩ := (HA.out.below HBE.out).2.2 (by omega)
        obtain ⟨b2, o2, rfl, hat2⟩ := (HB.out.below HBE.out).2.2 (by omega)
        obtain ⟨d0, d1⟩ := hat1 k (by omega)
        obtain ⟨f0, f1⟩ := hat2 k (by omega)
        have hi : (k : Int) < (n : Int) := by omega
        have hne := fun W => run_neq37 (ep a k) (ls a k) (ep b k) (ls b k) W
        have hgd := guard37
        have HS : Hid (decide (ep a k = ep b k ∧ ls a k = ls b k) = decide (sameAt a b k)) := Lib.hid rfl
        rw [HS.out] at hne
        by_cases hs : sameAt a b k
        · rw [show decide (sameAt a b k) = true from by rw [decide_eq_true_iff]; exact hs] at hne
          have HSS := Lib.hid hs
          clear hat1 hat2 HS hs
          generalize ep a k = e1 at *
          generalize ls a k = l1 at *
          generalize ep b k = e2 at *
          generalize ls b k = l2 at *
          go_wp2_with fail
          go_quiet (fail)
          clear hne hgd d0 d1 f0 f1
          go_wp2
          go_roundw
          case rel =>
            refine ⟨k + 1, by omega, by go_num, fun j hj => ?_, below_drewN HBE.out _⟩
            by_cases hjk : j = k
            · subst hjk; exact HSS.out
            · exact HALL.out j (by omega)
          case measure => simp [intOf]; omega
        · rw [show decide (sameAt a b k) = false from by rw [decide_eq_false_iff_not]; exact hs] at hne
          have HSS := Lib.hid hs
          clear hat1 hat2 HS hs
          generalize ep a k = e1 at *
          generalize ls a k = l1 at *
          generalize ep b k = e2 at *
          generalize ls b k = l2 at *
          go_wp2_with fail
          go_quiet (fail)
          clear hne hgd d0 d1 f0 f1
          go_wp2
          go_ret
          exact ⟨ret_bool (HQ.out _ ⟨(fun h => by cases h), (fun h => absurd (show sameAt a b k from by rw [h]; exact ⟨rfl, rfl⟩) HSS.out)⟩), below_drewN HBE.out _⟩
      · have hkm : k = n := by omega
        subst hkm
        go_wp2
        go_ret
        exact ⟨ret_bool (HQ.out _ ⟨fun _ => same_all (by rw [HLA.out, HLB.out]) (by rw [HLA.out]; exact HALL.out), fun _ => rfl⟩), HBE.out⟩
  · have hne : (((n : Nat) : Int) != ((m : Nat) : Int)) = true := by rw [bne_iff_ne]; omega
    have hd : decide (a = b) = false := by rw [decide_eq_false_iff_not]; intro h; have := HLA.out; rw [h, HLB.out] at this; omega
    rw [hd]
    clear hd
    go_enter Try.func19, Try.ntmps19
    go_wp2
    go_ret
    exact ⟨rfl, Below.refl _ _⟩

end Go.Proofs.Ytngnfgnaagbpjaa
