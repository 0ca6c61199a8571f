/-
  The contract of epochs.End: for every slice of starts.
-/
import Derived.Test.YtngnfgnaagbpjaaAtEnd
namespace Go.Proofs.Ytngnfgnaagbpjaa
open Go.RowKit

set_option maxHeartbeats 1000000 in
theorem end_any (a : Option Addr) (n cap l e : Nat) (t : Tbl) (w : World) (hT : Tab w a n t) (hn : n ≤ 1000000) (hl : l ≤ 18446744073709551615) :
    Calls Try.prog 15 #[.slice a n cap, .int .u64 (l : Int), .int .u32 (e : Int)] w fun x w' => x = .returned (.int .u64 (endS t l e : Nat)) ∧ Below w.heap.size w w' := by
  have CC := Lib.hid (check_any a n cap t w hT (small_len _ hn))
  have HT := Lib.hid hT
  have HLEN := Lib.hid hT.1
  clear hT
  rcases chk_cases t with ⟨hM, hc⟩ | ⟨hM, hc⟩
  · rw [hc] at CC
    have CS := Lib.hid (fun W (h : Tab W a n t) => begun_any a n cap l t W h hn hM)
    have CU := Lib.hid (fun W (h : Tab W a n t) => upto_any a n cap e t W h hn hM)
    have CA := Lib.hid (fun m W (h : Tab W a n t) hm => ahead_any a n cap m t W h hn hM hm)
    have hle := cL_le t l
    rw [HLEN.out] at hle
    have hle2 := cE_le t e
    rw [HLEN.out] at hle2
    have HA := Lib.hid (endS_is hM l e hl)
    clear hM hc
    generalize cL t l = c at *
    generalize cE t e = d at *
    go_enter Try.func15, Try.ntmps15
    go_wp2_with fail
    with_reducible refine CC.out.mono ?_
    rintro y w2 ⟨rfl, hb⟩
    rw [show ((0 : Nat) : Int) = 0 from rfl]
    have HB := Lib.hid hb
    clear hb
    go_wp2_with fail
    with_reducible refine (CU.out _ (HT.out.below HB.out)).mono ?_
    rintro y w3 ⟨rfl, hb⟩
    have HB3 := Lib.hid (HB.out.trans (hb.mono HB.out.size))
    clear hb
    go_wp2_with fail
    with_reducible refine (CS.out _ (HT.out.below HB3.out)).mono ?_
    rintro y w4 ⟨rfl, hb⟩
    have HB4 := Lib.hid (HB3.out.trans (hb.mono HB3.out.size))
    clear hb
    by_cases hcd : c < d
    · have HAM := Lib.hid (HA.out c (by omega))
      by_cases h0 : c = 0
      · have hz : (((c : Nat) : Int) == 0) = true := by rw [beq_iff_eq]; omega
        rw [if_pos h0] at HAM
        clear h0
        go_wp2
        go_ret
        exact ⟨ret_int (by rw [HAM.out]; rfl), HB4.out⟩
      · have hz : (((c : Nat) : Int) == 0) = false := by rw [beq_eq_false_iff_ne]; omega
        rw [if_neg h0] at HAM
        have CX := Lib.hid (CA.out c w4 (HT.out.below HB4.out) (by omega))
        clear h0 CS CU CC HA CA
        generalize ahead t c = x at *
        go_wp2_with fail
        with_reducible refine CX.out.mono ?_
        rintro y w5 ⟨rfl, rfl⟩
        by_cases hx : x < l
        · go_wp2
          go_ret
          exact ⟨ret_int (by rw [HAM.out]; omega), HB4.out⟩
        · go_wp2
          go_ret
          exact ⟨ret_int (by rw [HAM.out]; omega), HB4.out⟩
    · have HAM := Lib.hid (HA.out d (by omega))
      by_cases h0 : d = 0
      · have hz : (((d : Nat) : Int) == 0) = true := by rw [beq_iff_eq]; omega
        rw [if_pos h0] at HAM
        clear h0
        go_wp2
        go_ret
        exact ⟨ret_int (by rw [HAM.out]; rfl), HB4.out⟩
      · have hz : (((d : Nat) : Int) == 0) = false := by rw [beq_eq_false_iff_ne]; omega
        rw [if_neg h0] at HAM
        have CX := Lib.hid (CA.out d w4 (HT.out.below HB4.out) (by omega))
        clear h0 CS CU CC HA CA
        generalize ahead t d = x at *
        go_wp2_with fail
        with_reducible refine CX.out.mono ?_
        rintro y w5 ⟨rfl, rfl⟩
        by_cases hx : x < l
        · go_wp2
          go_ret
          exact ⟨ret_int (by rw [HAM.out]; omega), HB4.out⟩
        · go_wp2
          go_ret
          exact ⟨ret_int (by rw [HAM.out]; omega), HB4.out⟩
  · rw [hc] at CC
    have HA := Lib.hid (endS_no hM l e)
    clear hM hc
    go_enter Try.func15, Try.ntmps15
    go_wp2_with fail
    with_reducible refine CC.out.mono ?_
    rintro y w2 ⟨rfl, hb⟩
    rw [show ((60 : Nat) : Int) = 60 from rfl]
    go_wp2
    go_ret
    exact ⟨ret_int (by rw [HA.out]; rfl), hb⟩

end Go.Proofs.Ytngnfgnaagbpjaa
