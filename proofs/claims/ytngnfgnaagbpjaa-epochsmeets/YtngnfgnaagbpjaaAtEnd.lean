/-
  The contracts of epochs.At, aheadOf and End: for every slice of starts.
-/
import Derived.Test.YtngnfgnaagbpjaaSearch
import Derived.Test.YtngnfgnaagbpjaaCheck
namespace Go.Proofs.Ytngnfgnaagbpjaa
open Go.RowKit

set_option maxHeartbeats 1000000 in
theorem at_any (a : Option Addr) (n cap l : Nat) (t : Tbl) (w : World) (hT : Tab w a n t) (hn : n ≤ 1000000) :
    Calls Try.prog 14 #[.slice a n cap, .int .u64 (l : Int)] w fun x w' => x = .returned (.int .u32 (atS t l : Nat)) ∧ Below w.heap.size w w' := by
  have CC := Lib.hid (check_any a n cap t w hT (small_len _ hn))
  have HT := Lib.hid hT
  have HLEN := Lib.hid hT.1
  clear hT
  rcases chk_cases t with ⟨hM, hc⟩ | ⟨hM, hc⟩
  · rw [hc] at CC
    have CS := Lib.hid (fun W (h : Tab W a n t) => begun_any a n cap l t W h hn hM)
    have hle := cL_le t l
    rw [HLEN.out] at hle
    have HA := Lib.hid (atS_yes hM l)
    clear hM hc
    generalize cL t l = c at *
    go_enter Try.func14, Try.ntmps14
    go_wp2_with fail
    with_reducible refine CC.out.mono ?_
    rintro y w2 ⟨rfl, hb⟩
    rw [show ((0 : Nat) : Int) = 0 from rfl]
    have HB := Lib.hid hb
    clear hb
    go_wp2_with fail
    with_reducible refine (CS.out _ (HT.out.below HB.out)).mono ?_
    rintro y w3 ⟨rfl, hb⟩
    have HB3 := Lib.hid (HB.out.trans (hb.mono HB.out.size))
    clear hb CS CC
    by_cases h0 : c = 0
    · subst h0
      rw [show ((0 : Nat) : Int) = 0 from rfl]
      go_wp2
      go_ret
      exact ⟨ret_int (by rw [HA.out]; rfl), HB3.out⟩
    · obtain ⟨m, rfl⟩ : ∃ m, c = m + 1 := ⟨c - 1, by omega⟩
      obtain ⟨b, off, rfl, hat⟩ := (HT.out.below HB3.out).2.2 (by omega)
      obtain ⟨d0, d1⟩ := hat m (by omega)
      have hi : (m : Int) < (n : Int) := by omega
      have hb0 : (((m + 1 : Nat) : Int) == 0) = false := by rw [beq_eq_false_iff_ne]; omega
      have hw : IntKind.i64.wrap (((m + 1 : Nat) : Int) - 1) = (m : Int) := by rw [IntWalk.i64_in _ (by omega)]; omega
      rw [pE_succ] at HA
      clear hat d1
      go_wp2
      go_ret
      exact ⟨ret_int (by rw [HA.out]), HB3.out⟩
  · rw [hc] at CC
    have HA := Lib.hid (atS_no hM l)
    clear hM hc
    go_enter Try.func14, Try.ntmps14
    go_wp2_with fail
    with_reducible refine CC.out.mono ?_
    rintro y w2 ⟨rfl, hb⟩
    rw [show ((60 : Nat) : Int) = 60 from rfl]
    go_wp2
    go_ret
    exact ⟨ret_int (by rw [HA.out]; rfl), hb⟩

set_option maxHeartbeats 1000000 in
theorem ahead_any (a : Option Addr) (n cap m : Nat) (t : Tbl) (w : World) (hT : Tab w a n t) (hn : n ≤ 1000000) (hM : isT t) (hm : m ≤ n) :
    Calls Try.prog 29 #[.slice a n cap, .int .i64 (m : Int)] w fun x w' => x = .returned (.int .u64 (ahead t m : Nat)) ∧ w = w' := by
  have HA : Hid (ahead t m = if m = t.length then 18446744073709551615 else ls t m - 1) := Lib.hid rfl
  rw [hT.1] at HA
  by_cases h : m = n
  · subst h
    rw [if_pos rfl] at HA
    have hb : (((m : Nat) : Int) == ((m : Nat) : Int)) = true := by simp
    clear hT
    go_enter Try.func29, Try.ntmps29
    go_wp2
    go_ret
    exact ⟨ret_int (by rw [HA.out]; rfl), rfl⟩
  · rw [if_neg h] at HA
    have hp := (hM.pos (i := m) (by rw [hT.1]; omega)).2
    have hf := (hT.2.1 m).2
    obtain ⟨b, off, rfl, hat⟩ := hT.2.2 (by omega)
    obtain ⟨d0, d1⟩ := hat m (by omega)
    have hi : (m : Int) < (n : Int) := by omega
    have hb : (((m : Nat) : Int) == ((n : Nat) : Int)) = false := by rw [beq_eq_false_iff_ne]; omega
    clear hat d0 hT
    generalize ls t m = x at *
    obtain ⟨y, rfl⟩ : ∃ y, x = y + 1 := ⟨x - 1, by omega⟩
    have hw : IntKind.u64.wrap (((y + 1 : Nat) : Int) - 1) = (y : Int) := by rw [IntKind.wrap_u64]; omega
    go_enter Try.func29, Try.ntmps29
    go_wp2
    go_ret
    exact ⟨ret_int (by rw [HA.out]; omega), rfl⟩

end Go.Proofs.Ytngnfgnaagbpjaa
