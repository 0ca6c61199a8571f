/-
  The walk of EpochsForks, out of the contracts.
-/
import Derived.Test.YtngnfgnaagbpjaaKnown
import Derived.Test.YtngnfgnaagbpjaaRFork
import Derived.Test.YtngnfgnaagbpjaaIn
namespace Go.Proofs.Ytngnfgnaagbpjaa
open Go.RowKit
set_option linter.unusedVariables false

set_option maxRecDepth 100000 in
set_option maxHeartbeats 4000000 in
theorem epochsForks_walk (a : Option Addr) (n cap : Nat) (t : Tbl) (l : Nat) (b : Option Addr) (m dap : Nat) (u : Tbl) (l2 : Nat) (w : World) (hI : InTab w a n cap t) (hl : l < 18446744073709551616) (hI2 : InTab w b m dap u) (hl2 : l2 < 18446744073709551616) :
    Calls Try.prog 4 #[.slice a n cap, .int .u64 (l : Int), .slice b m dap, .int .u64 (l2 : Int)] w fun x w' => x = .returned (.bool true) ∧ Below w.heap.size w w' := by
  obtain ⟨hT, hnc, hcm, hA⟩ := hI
  obtain ⟨hT2, hnc2, hcm2, hA2⟩ := hI2
  have HT := Lib.hid hT
  have HU := Lib.hid hT2
  have B0 := Lib.hid (Below.refl w.heap.size w)
  clear hT hA hT2 hA2
  have C0 := Lib.hid (many_any a b n m cap dap w)
  by_cases hn : 500 < n ∨ 500 < m
  · rw [show manyB n m = true from by unfold manyB; rw [decide_eq_true_iff]; omega] at C0
    go_enter Try.func4, Try.ntmps4
    go_wp2_with fail
    with_reducible refine (C0.out).mono ?_
    rintro x w1 ⟨rfl, rfl⟩
    go_wp2_with fail
    with_reducible refine (known_any _).mono ?_
    rintro x w2 ⟨rfl, hb⟩
    have B2 := Lib.hid (B0.out.trans (hb.mono B0.out.size))
    clear hb
    go_wp2
    go_ret
    exact ⟨rfl, B2.out⟩
  · rw [show manyB n m = false from by unfold manyB; rw [decide_eq_false_iff_not]; omega] at C0
    have D1 := Lib.hid (fun W (h : Tab W a n t) (k : Tab W b m u) => fork_any a b n m cap dap l l2 t u W h k (by omega) (by omega))
    have D2 := Lib.hid (fun W (h : Tab W a n t) (k : Tab W b m u) => fork_any b a m n dap cap l2 l u t W k h (by omega) (by omega))
    have D3 := Lib.hid (fun W (h : Tab W a n t) (k : Tab W b m u) => refFork_any a b n m cap dap l l2 t u W h k (by omega) (by omega) (by omega) (by omega))
    rw [fork_symm] at D2
    generalize forkS t l u l2 = q at *
    go_enter Try.func4, Try.ntmps4
    go_wp2_with fail
    with_reducible refine (C0.out).mono ?_
    rintro x w1 ⟨rfl, rfl⟩
    go_wp2_with fail
    with_reducible refine (D1.out _ HT.out HU.out).mono ?_
    rintro x w2 ⟨rfl, hb⟩
    have B2 := Lib.hid (B0.out.trans (hb.mono B0.out.size))
    clear hb
    go_wp2_with fail
    with_reducible refine (D2.out _ (HT.out.below B2.out) (HU.out.below B2.out)).mono ?_
    rintro x w3 ⟨rfl, hb⟩
    have B3 := Lib.hid (B2.out.trans (hb.mono B2.out.size))
    clear hb
    go_wp2_with fail
    with_reducible refine (D3.out _ (HT.out.below B3.out) (HU.out.below B3.out)).mono ?_
    rintro x w4 ⟨rfl, hb⟩
    have B4 := Lib.hid (B3.out.trans (hb.mono B3.out.size))
    clear hb
    go_wp2_with fail
    with_reducible refine (known_any _).mono ?_
    rintro x w5 ⟨rfl, hb⟩
    have B5 := Lib.hid (B4.out.trans (hb.mono B4.out.size))
    clear hb
    go_wp2
    go_ret
    exact ⟨rfl, B5.out⟩

end Go.Proofs.Ytngnfgnaagbpjaa
