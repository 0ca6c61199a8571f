/-
  The contracts of common and epochs.Fork: for all slices of starts.
-/
import Derived.Test.YtngnfgnaagbpjaaAtEnd
import Derived.Test.YtngnfgnaagbpjaaEq
namespace Go.Proofs.Ytngnfgnaagbpjaa
open Go.RowKit

theorem run_min4 (x1 x2 x3 x4 : Nat) (w : World) : (Builtin.min_ #[23, 23, 23, 23] 23 #[.int .u64 (x1 : Int), .int .u64 (x2 : Int), .int .u64 (x3 : Int), .int .u64 (x4 : Int)]).run Try.prog w = .ok (.int .u64 ((min x1 (min x2 (min x3 x4)) : Nat) : Int)) w := by
  have e : ((min x1 (min x2 (min x3 x4)) : Nat) : Int) = if (x4 : Int) < (if (x3 : Int) < (if (x2 : Int) < (x1 : Int) then (x2 : Int) else x1) then (x3 : Int) else (if (x2 : Int) < (x1 : Int) then (x2 : Int) else x1)) then (x4 : Int) else (if (x3 : Int) < (if (x2 : Int) < (x1 : Int) then (x2 : Int) else x1) then (x3 : Int) else (if (x2 : Int) < (x1 : Int) then (x2 : Int) else x1)) := by
    repeat' split
    all_goals omega
  rw [e]
  simp [Builtin.min_, Builtin.min2]

def ComR (w : World) (m : Nat) (a b : Tbl) (i : Value) (wr : World) : Prop :=
  ∃ k : Nat, k ≤ m ∧ i = .int .i64 k ∧ (∀ j, j < k → sameAt a b j) ∧ Below w.heap.size w wr

set_option maxRecDepth 100000 in
set_option maxHeartbeats 2000000 in
theorem common_any (A B : Option Addr) (n m cA cB : Nat) (a b : Tbl) (w : World) (hA : Tab w A n a) (hB : Tab w B m b) (hn : n ≤ 1000000) (hm : m ≤ 1000000) :
    Calls Try.prog 30 #[.slice A n cA, .slice B m cB] w fun x w' => x = .returned (.int .i64 (com a b : Nat)) ∧ Below w.heap.size w w' := by
  have HA := Lib.hid hA
  have HB := Lib.hid hB
  have HC := Lib.hid (com_is a b)
  have HLA := Lib.hid hA.1
  have HLB := Lib.hid hB.1
  clear hA hB
  by_cases hmn : m < n
  · go_enter Try.func30, Try.ntmps30
    go_wp2_with fail
    go_loopw [13] (ComR w m a b) (fun i _ => m - (intOf i).toNat)
    case atStart => exact ⟨0, by omega, rfl, (fun j h => by omega), Below.refl _ _⟩
    case round =>
      obtain ⟨k, hk, rfl, hall, hbel⟩ := hrel
      have HALL := Lib.hid hall
      have HBE := Lib.hid hbel
      clear hall hbel
      by_cases hlt : k < m
      · obtain ⟨b1, o1, rfl, hat1⟩ := (HA.out.below HBE.out).2.2 (by omega)
        obtain ⟨b2, o2, rfl, hat2⟩ := (HB.out.below HBE.out).2.2 (by omega)
        obtain ⟨d0, d1⟩ := hat1 k (by omega)
        obtain ⟨f0, f1⟩ := hat2 k (by omega)
        have hi : (k : Int) < (n : Int) := by omega
        have hi2 : (k : Int) < (m : Int) := by omega
        have hne := fun W => run_neq37 (ep a k) (ls a k) (ep b k) (ls b k) W
        have hgd := guard37
        have HS : Hid (decide (ep a k = ep b k ∧ ls a k = ls b k) = decide (sameAt a b k)) := Lib.hid rfl
        rw [HS.out] at hne
        by_cases hs : sameAt a b k
        · rw [show decide (sameAt a b k) = true from by rw [decide_eq_true_iff]; exact hs] at hne
          have HSS := Lib.hid hs
          clear hat1 hat2 HS hs
          generalize ep a k = e1 at *
          generalize ls a k = l1 at *
          generalize ep b k = e2 at *
          generalize ls b k = l2 at *
          go_wp2_with fail
          go_quiet (fail)
          clear hne hgd d0 d1 f0 f1
          go_wp2
          go_roundw
          case rel =>
            refine ⟨k + 1, by omega, by go_num, fun j hj => ?_, below_drewN HBE.out _⟩
            by_cases hjk : j = k
            · subst hjk; exact HSS.out
            · exact HALL.out j (by omega)
          case measure => simp [intOf]; omega
        · rw [show decide (sameAt a b k) = false from by rw [decide_eq_false_iff_not]; exact hs] at hne
          have HSS := Lib.hid hs
          clear hat1 hat2 HS hs
          generalize ep a k = e1 at *
          generalize ls a k = l1 at *
          generalize ep b k = e2 at *
          generalize ls b k = l2 at *
          go_wp2_with fail
          go_quiet (fail)
          clear hne hgd d0 d1 f0 f1
          go_wp2
          go_ret
          have hk2 : Com a b k := ⟨by rw [HLA.out]; omega, by rw [HLB.out]; omega, HALL.out, fun _ _ => HSS.out⟩
          exact ⟨ret_int (by rw [HC.out.uniq hk2]), below_drewN HBE.out _⟩
      · have hkm : k = m := by omega
        subst hkm
        go_wp2
        go_ret
        have hk2 : Com a b k := ⟨by rw [HLA.out]; omega, by rw [HLB.out]; omega, HALL.out, fun h1 h2 => by rw [HLA.out] at h1; rw [HLB.out] at h2; omega⟩
        exact ⟨ret_int (by rw [HC.out.uniq hk2]), HBE.out⟩
  · go_enter Try.func30, Try.ntmps30
    go_wp2_with fail
    go_loopw [13] (ComR w n a b) (fun i _ => n - (intOf i).toNat)
    case atStart => exact ⟨0, by omega, rfl, (fun j h => by omega), Below.refl _ _⟩
    case round =>
      obtain ⟨k, hk, rfl, hall, hbel⟩ := hrel
      have HALL := Lib.hid hall
      have HBE := Lib.hid hbel
      clear hall hbel
      by_cases hlt : k < n
      · obtain ⟨b1, o1, rfl, hat1⟩ := (HA.out.below HBE.out).2.2 (by omega)
        obtain ⟨b2, o2, rfl, hat2⟩ := (HB.out.below HBE.out).2.2 (by omega)
        obtain ⟨d0, d1⟩ := hat1 k (by omega)
        obtain ⟨f0, f1⟩ := hat2 k (by omega)
        have hi : (k : Int) < (n : Int) := by omega
        have hi2 : (k : Int) < (m : Int) := by omega
        have hne := fun W => run_neq37 (ep a k) (ls a k) (ep b k) (ls b k) W
        have hgd := guard37
        have HS : Hid (decide (ep a k = ep b k ∧ ls a k = ls b k) = decide (sameAt a b k)) := Lib.hid rfl
        rw [HS.out] at hne
        by_cases hs : sameAt a b k
        · rw [show decide (sameAt a b k) = true from by rw [decide_eq_true_iff]; exact hs] at hne
          have HSS := Lib.hid hs
          clear hat1 hat2 HS hs
          generalize ep a k = e1 at *
          generalize ls a k = l1 at *
          generalize ep b k = e2 at *
          generalize ls b k = l2 at *
          go_wp2_with fail
          go_quiet (fail)
          clear hne hgd d0 d1 f0 f1
          go_wp2
          go_roundw
          case rel =>
            refine ⟨k + 1, by omega, by go_num, fun j hj => ?_, below_drewN HBE.out _⟩
            by_cases hjk : j = k
            · subst hjk; exact HSS.out
            · exact HALL.out j (by omega)
          case measure => simp [intOf]; omega
        · rw [show decide (sameAt a b k) = false from by rw [decide_eq_false_iff_not]; exact hs] at hne
          have HSS := Lib.hid hs
          clear hat1 hat2 HS hs
          generalize ep a k = e1 at *
          generalize ls a k = l1 at *
          generalize ep b k = e2 at *
          generalize ls b k = l2 at *
          go_wp2_with fail
          go_quiet (fail)
          clear hne hgd d0 d1 f0 f1
          go_wp2
          go_ret
          have hk2 : Com a b k := ⟨by rw [HLA.out]; omega, by rw [HLB.out]; omega, HALL.out, fun _ _ => HSS.out⟩
          exact ⟨ret_int (by rw [HC.out.uniq hk2]), below_drewN HBE.out _⟩
      · have hkm : k = n := by omega
        subst hkm
        go_wp2
        go_ret
        have hk2 : Com a b k := ⟨by rw [HLA.out]; omega, by rw [HLB.out]; omega, HALL.out, fun h1 h2 => by rw [HLA.out] at h1; rw [HLB.out] at h2; omega⟩
        exact ⟨ret_int (by rw [HC.out.uniq hk2]), HBE.out⟩

set_option maxRecDepth 100000 in
set_option maxHeartbeats 2000000 in
theorem fork_any (A B : Option Addr) (n m cA cB la lb : Nat) (a b : Tbl) (w : World) (hA : Tab w A n a) (hB : Tab w B m b) (hn : n ≤ 1000000) (hm : m ≤ 1000000) :
    Calls Try.prog 20 #[.slice A n cA, .int .u64 (la : Int), .slice B m cB, .int .u64 (lb : Int)] w fun x w' => x = .returned (.int .u64 (forkS a la b lb : Nat)) ∧ Below w.heap.size w w' := by
  have C1 := Lib.hid (check_any A n cA a w hA (small_len _ hn))
  have C2 := Lib.hid (fun W (h : Tab W B m b) => check_any B m cB b W h (small_len _ hm))
  have C3 := Lib.hid (fun W (h : Tab W A n a) (k : Tab W B m b) => common_any A B n m cA cB a b W h k hn hm)
  have HA := Lib.hid hA
  have HB := Lib.hid hB
  have HLA := Lib.hid hA.1
  have HLB := Lib.hid hB.1
  have HF : Hid (forkS a la b lb = if isT a ∧ isT b then min la (min lb (min (ahead a (com a b)) (ahead b (com a b)))) else 0) := Lib.hid rfl
  obtain ⟨hc1, hc2, _, _⟩ := com_is a b
  rw [hA.1] at hc1
  rw [hB.1] at hc2
  clear hA hB
  rcases chk_cases a with ⟨hM, hc⟩ | ⟨hM, hc⟩
  · rw [hc] at C1
    rcases chk_cases b with ⟨hM2, hd⟩ | ⟨hM2, hd⟩
    · rw [hd] at C2
      rw [if_pos ⟨hM, hM2⟩] at HF
      have C4 := Lib.hid (fun q W (h : Tab W A n a) hq => ahead_any A n cA q a W h hn hM hq)
      have C5 := Lib.hid (fun q W (h : Tab W B m b) hq => ahead_any B m cB q b W h hm hM2 hq)
      clear hM hM2 hc hd
      generalize com a b = c at *
      go_enter Try.func20, Try.ntmps20
      go_wp2_with fail
      with_reducible refine C1.out.mono ?_
      rintro y w2 ⟨rfl, hb⟩
      rw [show ((0 : Nat) : Int) = 0 from rfl]
      have HB2 := Lib.hid hb
      clear hb
      go_wp2_with fail
      with_reducible refine (C2.out _ (HB.out.below HB2.out)).mono ?_
      rintro y w3 ⟨rfl, hb⟩
      rw [show ((0 : Nat) : Int) = 0 from rfl]
      have HB3 := Lib.hid (HB2.out.trans (hb.mono HB2.out.size))
      clear hb
      go_wp2_with fail
      with_reducible refine (C3.out _ (HA.out.below HB3.out) (HB.out.below HB3.out)).mono ?_
      rintro y w4 ⟨rfl, hb⟩
      have HB4 := Lib.hid (HB3.out.trans (hb.mono HB3.out.size))
      clear hb
      have D4 := Lib.hid (C4.out c w4 (HA.out.below HB4.out) (by omega))
      have D5 := Lib.hid (C5.out c w4 (HB.out.below HB4.out) (by omega))
      clear C1 C2 C3 C4 C5
      generalize ahead a c = x at *
      generalize ahead b c = y at *
      go_wp2_with fail
      with_reducible refine D4.out.mono ?_
      rintro _ w5 ⟨rfl, rfl⟩
      go_wp2_with fail
      with_reducible refine D5.out.mono ?_
      rintro _ w6 ⟨rfl, rfl⟩
      clear D4 D5
      have hmin := fun W => run_min4 la lb x y W
      rw [← HF.out] at hmin
      go_wp2
      go_ret
      exact ⟨rfl, HB4.out⟩
    · rw [hd] at C2
      rw [if_neg (fun h => hM2 h.2)] at HF
      clear hM hM2 hc hd
      go_enter Try.func20, Try.ntmps20
      go_wp2_with fail
      with_reducible refine C1.out.mono ?_
      rintro y w2 ⟨rfl, hb⟩
      rw [show ((0 : Nat) : Int) = 0 from rfl]
      have HB2 := Lib.hid hb
      clear hb
      go_wp2_with fail
      with_reducible refine (C2.out _ (HB.out.below HB2.out)).mono ?_
      rintro y w3 ⟨rfl, hb⟩
      rw [show ((60 : Nat) : Int) = 60 from rfl]
      have HB3 := Lib.hid (HB2.out.trans (hb.mono HB2.out.size))
      clear hb
      go_wp2
      go_ret
      exact ⟨ret_int (by rw [HF.out]; rfl), HB3.out⟩
  · rw [hc] at C1
    rw [if_neg (fun h => hM h.1)] at HF
    clear hM hc
    go_enter Try.func20, Try.ntmps20
    go_wp2_with fail
    with_reducible refine C1.out.mono ?_
    rintro y w2 ⟨rfl, hb⟩
    rw [show ((60 : Nat) : Int) = 60 from rfl]
    go_wp2
    go_ret
    exact ⟨ret_int (by rw [HF.out]; rfl), hb⟩

end Go.Proofs.Ytngnfgnaagbpjaa
