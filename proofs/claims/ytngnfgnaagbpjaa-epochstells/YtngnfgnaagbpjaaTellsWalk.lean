/-
  The walk of EpochsTells, out of the contracts.
-/
import Derived.Test.YtngnfgnaagbpjaaKnown
import Derived.Test.YtngnfgnaagbpjaaREnd
import Derived.Test.YtngnfgnaagbpjaaSame
import Derived.Test.YtngnfgnaagbpjaaIn
namespace Go.Proofs.Ytngnfgnaagbpjaa
open Go.RowKit
set_option linter.unusedVariables false

set_option maxRecDepth 100000 in
set_option maxHeartbeats 4000000 in
theorem epochsTells_walk (a : Option Addr) (n cap : Nat) (t : Tbl) (l e : Nat) (w : World) (hI : InTab w a n cap t) (hl : l < 18446744073709551616) (he : e < 4294967296) :
    Calls Try.prog 3 #[.slice a n cap, .int .u64 (l : Int), .int .u32 (e : Int)] w fun x w' => x = .returned (.bool true) ∧ Below w.heap.size w w' := by
  obtain ⟨hT, hnc, hcm, hA⟩ := hI
  have HT := Lib.hid hT
  have HLEN := Lib.hid hT.1
  have HCA := Lib.hid hA
  have B0 := Lib.hid (Below.refl w.heap.size w)
  clear hT hA
  have C0 := Lib.hid (many_any a none n 0 cap 0 w)
  by_cases hn : 500 < n
  · rw [show manyB n 0 = true from by unfold manyB; rw [decide_eq_true_iff]; omega] at C0
    go_enter Try.func3, Try.ntmps3
    go_wp2_with fail
    with_reducible refine (C0.out).mono ?_
    rintro x w1 ⟨rfl, rfl⟩
    go_wp2_with fail
    with_reducible refine (known_any _).mono ?_
    rintro x w2 ⟨rfl, hb⟩
    have B2 := Lib.hid (B0.out.trans (hb.mono B0.out.size))
    clear hb
    go_wp2
    go_ret
    exact ⟨rfl, B2.out⟩
  · rw [show manyB n 0 = false from by unfold manyB; rw [decide_eq_false_iff_not]; omega] at C0
    have C1 := Lib.hid (copied_any a n cap t w HT.out HCA.out (by omega))
    go_enter Try.func3, Try.ntmps3
    go_wp2_with fail
    with_reducible refine (C0.out).mono ?_
    rintro x w1 ⟨rfl, rfl⟩
    go_wp2_with fail
    with_reducible refine (C1.out).mono ?_
    rintro x w2 ⟨v, rfl, ho, hb⟩
    have B2 := Lib.hid (B0.out.trans (hb.mono B0.out.size))
    clear hb
    obtain ⟨A, c, rfl, hTx, _, _, _⟩ := ho.slice
    rw [HLEN.out] at hTx ⊢
    have HX := Lib.hid hTx
    have D1 := Lib.hid (fun W (h : Tab W A n t) => check_any A n c t W h (small_len _ (by omega)))
    have D2 := Lib.hid (fun W (h : Tab W A n t) => at_any A n c l t W h (by omega))
    have D3 := Lib.hid (fun W (h : Tab W A n t) => end_any A n c l e t W h (by omega) (by omega))
    have E1 := Lib.hid (fun W (h : Tab W a n t) => refCheck_any a n cap t W h (small_len _ (by omega)))
    have E2 := Lib.hid (fun W (h : Tab W a n t) => refAt_any a n cap l t W h (small_len _ (by omega)))
    have E3 := Lib.hid (fun W (h : Tab W a n t) => refEnd_any a n cap l e t W h (by omega))
    have F := Lib.hid (fun W (h : Tab W A n t) (k : Tab W a n t) => same_any A a n n c cap t t W h k (by omega) (by omega))
    rw [show decide (t = t) = true from by simp] at F
    clear ho hTx C1 C0
    generalize chk t = q1 at *
    generalize atS t l = q2 at *
    generalize endS t l e = q3 at *
    go_wp2_with fail
    with_reducible refine (D1.out _ HX.out).mono ?_
    rintro x w3 ⟨rfl, hb⟩
    have HX3 := Lib.hid (HX.out.below hb)
    have B3 := Lib.hid (B2.out.trans (hb.mono B2.out.size))
    clear hb
    go_wp2_with fail
    with_reducible refine (D2.out _ HX3.out).mono ?_
    rintro x w4 ⟨rfl, hb⟩
    have HX4 := Lib.hid (HX3.out.below hb)
    have B4 := Lib.hid (B3.out.trans (hb.mono B3.out.size))
    clear hb
    go_wp2_with fail
    with_reducible refine (D3.out _ HX4.out).mono ?_
    rintro x w5 ⟨rfl, hb⟩
    have HX5 := Lib.hid (HX4.out.below hb)
    have B5 := Lib.hid (B4.out.trans (hb.mono B4.out.size))
    clear hb
    go_wp2_with fail
    with_reducible refine (E1.out _ (HT.out.below B5.out)).mono ?_
    rintro x w6 ⟨rfl, hb⟩
    have HX6 := Lib.hid (HX5.out.below hb)
    have B6 := Lib.hid (B5.out.trans (hb.mono B5.out.size))
    clear hb
    go_wp2_with fail
    with_reducible refine (E2.out _ (HT.out.below B6.out)).mono ?_
    rintro x w7 ⟨rfl, hb⟩
    have HX7 := Lib.hid (HX6.out.below hb)
    have B7 := Lib.hid (B6.out.trans (hb.mono B6.out.size))
    clear hb
    go_wp2_with fail
    with_reducible refine (E3.out _ (HT.out.below B7.out)).mono ?_
    rintro x w8 ⟨rfl, hb⟩
    have HX8 := Lib.hid (HX7.out.below hb)
    have B8 := Lib.hid (B7.out.trans (hb.mono B7.out.size))
    clear hb
    go_wp2_with fail
    with_reducible refine (F.out _ HX8.out (HT.out.below B8.out)).mono ?_
    rintro x w9 ⟨rfl, hb⟩
    have B9 := Lib.hid (B8.out.trans (hb.mono B8.out.size))
    clear hb
    go_wp2_with fail
    with_reducible refine (known_any _).mono ?_
    rintro x w10 ⟨rfl, hb⟩
    have B10 := Lib.hid (B9.out.trans (hb.mono B9.out.size))
    clear hb
    go_wp2
    go_ret
    exact ⟨rfl, B10.out⟩

end Go.Proofs.Ytngnfgnaagbpjaa
