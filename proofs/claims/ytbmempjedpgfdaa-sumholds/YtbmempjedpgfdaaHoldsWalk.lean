/-
  The walk of SumHolds, out of the contracts.
-/
import Derived.Test.YtbmempjedpgfdaaTurned
namespace Go.Proofs.Ytbmempjedpgfdaa
open Go.RowKit

set_option maxHeartbeats 400000 in
theorem sumHolds_long (a : Option Addr) (n cap : Nat) (other at_ by_ : Int) (w : World) (hn : 3000 < n) (hm : n ≤ maxLen) :
    Calls Try.prog 8 #[.slice a n cap, .int .u32 other, .int .i64 at_, .int .u32 by_] w fun e w' => e = .returned (.bool true) ∧ Below w.heap.size w w' := by
  unfold maxLen at hm
  go_enter Try.func8, Try.ntmps8
  go_wp2_with fail
  with_reducible refine (known_any _).mono ?_
  rintro e w2 ⟨rfl, hb⟩
  go_wp2
  go_ret
  exact ⟨rfl, hb⟩

set_option maxHeartbeats 400000 in
theorem sumHolds_short (a : Option Addr) (n cap : Nat) (other : Nat) (at_ : Int) (by_ : Nat) (l : List Nat) (w : World) (hB : Bys w a n l) (hA : a = none → cap = 0) (hcap : n ≤ cap) (hn : n ≤ 3000) (hot : other < 4294967296) (hby : by_ < 4294967296) :
    Calls Try.prog 8 #[.slice a n cap, .int .u32 other, .int .i64 at_, .int .u32 by_] w fun e w' => e = .returned (.bool true) ∧ Below w.heap.size w w' := by
  have HB := Lib.hid hB
  have HA := Lib.hid hA
  have hs := Crc.crc_lt l hB.2.1
  clear hB hA
  go_enter Try.func8, Try.ntmps8
  go_wp2_with fail
  with_reducible refine (of_bytes' _ _ _ _ _ HB.out (small_len _ (by omega))).mono ?_
  rintro e w1 ⟨rfl, hb1⟩
  have HB1 := Lib.hid (HB.out.below hb1)
  generalize hsq : Crc.crc l = s at *
  have HS := Lib.hid hsq
  clear hsq
  go_wp2_with fail
  with_reducible refine (copy_any _ _ _ _ _ HB1.out HA.out (by omega)).mono ?_
  rintro e w2 ⟨v, rfl, hO, hb2⟩
  have HO := Lib.hid hO
  clear hO
  go_wp2_with (first
    | ((with_reducible refine wpl_append (some 35) _ _ _ (.tmp 22) (.tmp 34) w1.heap.size v l (some ⟨w2.heap.size, 0, none⟩) 4 4 (Crc.le s) ?hs ?hx (HO.out.alloc _) (bys_le _ _ hs _) ?ha ?hm ?hz ?_); (case hs => rfl); (case hx => rfl); (case ha => (intro h; cases h)); (case hm => (rw [HB.out.1]; omega)); (case hz => exact Nat.le_trans hb2.size (by simp)); (intro v' w' ho hg hv)))
  have hlb := HB.out.2.1
  have hlx : (l ++ Crc.le s).length = n + 4 := by rw [List.length_append, le_len, HB.out.1]
  have hbx : Below w.heap.size w w' := (HO.out.alloc _).grows hg ((hb1.trans (hb2.mono hb1.size)).alloc (Nat.le_trans hb1.size hb2.size) _) hb1.size (Nat.le_trans hb1.size (Nat.le_trans hb2.size (by simp)))
  obtain ⟨gx, cx, hvx, hBx, hcx1, hcx2⟩ := ho.some_ (by omega)
  rw [hlx] at hvx hBx hcx1
  rw [hvx]
  have HBX := Lib.hid hBx
  have HLB := Lib.hid hlb
  have HB3 := Lib.hid (HB.out.below hbx)
  clear hBx hvx ho hg hv HB1 HO hlb
  with_reducible refine (copy_any _ _ _ _ _ HB3.out HA.out (by omega)).mono ?_
  rintro e w4 ⟨v2, rfl, hO2, hb4⟩
  have HO2 := Lib.hid hO2
  clear hO2
  go_wp2_with (first
    | ((with_reducible refine wpl_append (some 51) _ _ _ (.tmp 38) (.tmp 50) w'.heap.size v2 l (some ⟨w4.heap.size, 0, none⟩) 4 4 (Crc.le other) ?hs ?hx (HO2.out.alloc _) (bys_le _ _ hot _) ?ha ?hm ?hz ?_); (case hs => rfl); (case hx => rfl); (case ha => (intro h; cases h)); (case hm => (rw [HB.out.1]; omega)); (case hz => exact Nat.le_trans hb4.size (by simp)); (intro v3 w5 ho3 hg3 hv3)))
  have hly : (l ++ Crc.le other).length = n + 4 := by rw [List.length_append, le_len, HB.out.1]
  have hb5 : Below w'.heap.size w' w5 := (HO2.out.alloc _).grows hg3 (hb4.alloc hb4.size _) (Nat.le_refl _) (Nat.le_trans hb4.size (by simp))
  obtain ⟨gy, cy, hvy, hBy, hcy1, hcy2⟩ := ho3.some_ (by omega)
  rw [hly] at hvy hBy hcy1
  rw [hvy]
  have HBX5 := Lib.hid (HBX.out.below hb5)
  have HBY := Lib.hid hBy
  clear hBy hvy ho3 hg3 hv3 HO2
  with_reducible refine (turned_both _ _ _ _ _ _ _ HBX5.out ?h0 (by omega) hby).mono ?_
  case h0 => intro h; cases h
  rintro e w6 ⟨A, c, z, v, k, rfl, hB6, hc1, hc2, hv, hk, hlt, hnum, hb6⟩
  have hxx : holdsB (l ++ Crc.le s) = true := by rw [← HS.out]; exact holdsB_own l
  have hzz := holdsB_turned (l ++ Crc.le s) z v k HBX5.out.2.1 hB6.2.1 (by omega) (by rw [hB6.1, hlx]) hxx (by rw [hlx]; exact hk) hv (by rw [hlx]; exact hlt) hnum
  have hyy := holdsB_other l other HLB.out hot
  rw [HS.out] at hyy
  have HXX := Lib.hid hxx
  have HBX6 := Lib.hid (HBX5.out.below hb6)
  have HBY6 := Lib.hid (HBY.out.below hb6)
  have HBZ6 := Lib.hid hB6
  have hw6 := hbx.trans ((hb5.mono hbx.size).trans (hb6.mono (Nat.le_trans hbx.size hb5.size)))
  clear hxx hB6 hnum hlt
  generalize decide (v ≠ 0) = q at *
  have HZZ := Lib.hid hzz
  clear hzz
  cases hp : ((other : Int) == (s : Int)) <;> cases q
  all_goals
    rw [hp] at hyy
    have HYY := Lib.hid hyy
    clear hyy
    go_wp2_with fail
    with_reducible refine (holds_any _ _ _ _ _ HBX6.out hcx1 hcx2).mono ?_
    rintro e w7 ⟨rfl, hb7⟩
    rw [HXX.out]
    have HBY7 := Lib.hid (HBY6.out.below hb7)
    have HBZ7 := Lib.hid (HBZ6.out.below hb7)
    go_wp2_with fail
    with_reducible refine (holds_any _ _ _ _ _ HBY7.out hcy1 hcy2).mono ?_
    rintro e w8 ⟨rfl, hb8⟩
    rw [HYY.out]
    have HBZ8 := Lib.hid (HBZ7.out.below hb8)
    go_wp2_with fail
    with_reducible refine (holds_any _ _ _ _ _ HBZ8.out hc1 hc2).mono ?_
    rintro e w9 ⟨rfl, hb9⟩
    rw [HZZ.out]
    go_wp2_with fail
    all_goals
      with_reducible refine (holds_no _ _ _ _ (by omega)).mono ?_
      rintro e w10 ⟨rfl, hb10⟩
      go_wp2_with fail
      with_reducible refine (known_any _).mono ?_
      rintro e w11 ⟨rfl, hb11⟩
      go_wp2
      go_ret
      have s6 := hw6.size
      have s7 := hb7.size
      have s8 := hb8.size
      have s9 := hb9.size
      have s10 := hb10.size
      exact ⟨rfl, (((((hw6.trans (hb7.mono (by omega))).trans (hb8.mono (by omega))).trans (hb9.mono (by omega))).trans (hb10.mono (by omega))).trans (hb11.mono (by omega)))⟩

end Go.Proofs.Ytbmempjedpgfdaa
