/-
  The contracts of the functions of package sum, each for every argument.
-/
import Derived.Test.YtaehagejmeimiaaRows
import Derived.Test.YtaehagejmeimiaaMath
import Derived.WalkKit
import Derived.WalkSpells
import Derived.WalkLawsBesides
import Derived.Laws.BitsAllLaws
import Derived.Lib.Hide
namespace Go.Proofs.Ytaehagejmeimiaa
open Go.RowKit

theorem ret_int {k : IntKind} {a b : Int} (h : a = b) : Ending.returned (.int k a) = .returned (.int k b) := by rw [h]
theorem val_int {k : IntKind} {a b : Int} (h : a = b) : Value.int k a = Value.int k b := by rw [h]

theorem u32_and1 (x : Nat) (h : x < 4294967296) : bits .and .u32 (x : Int) 1 = ((x % 2 : Nat) : Int) := by
  have := u32_and_nat x 1 h (by decide)
  rw [Nat.and_one_is_mod] at this
  exact this
theorem odd_true (x : Nat) (h : x < 4294967296) (ho : x % 2 = 1) : (bits .and .u32 (x : Int) 1 == 1) = true := by
  rw [u32_and1 x h, ho]; rfl
theorem odd_false (x : Nat) (h : x < 4294967296) (ho : ¬ x % 2 = 1) : (bits .and .u32 (x : Int) 1 == 1) = false := by
  rw [u32_and1 x h]; rw [beq_eq_false_iff_ne]; omega
theorem xor_poly (x : Nat) (h : x < 4294967296) : bits .xor .u32 ((x : Int) / 2) 3988292384 = ((x / 2 ^^^ Crc.poly : Nat) : Int) := by
  have := u32_xor_nat (x / 2) 3988292384 (by omega) (by decide)
  exact this

set_option maxHeartbeats 400000 in
theorem step_any (r : Nat) (w : World) (hr : r < 4294967296) :
    Calls Try.prog 44 #[.int .u32 r] w fun e w' => e = .returned (.int .u32 (Crc.stn 8 r : Nat)) ∧ w = w' := by
  go_enter Try.func44, Try.ntmps44
  go_wp2
  go_loop [0, 4] (fun x i => ∃ k : Nat, k ≤ 8 ∧ i = .int .i64 k ∧ x = .int .u32 (Crc.stn k r : Nat)) (fun _ i => 8 - (intOf i).toNat)
  case atStart => exact ⟨0, by omega, rfl, rfl⟩
  case round =>
    obtain ⟨k, hk, rfl, rfl⟩ := hrel
    have hl := Crc.stn_lt k r hr
    have hs := Crc.stn_succ' k r
    generalize hx : Crc.stn k r = x at *
    have HX := Lib.hid hx
    have HS := Lib.hid hs
    clear hx hs
    by_cases hlt : k < 8
    · by_cases ho : x % 2 = 1
      · have ho1 := odd_true x hl ho
        have hp := xor_poly x hl
        go_wp2
        go_round
        case rel => exact ⟨k + 1, by omega, by go_num, val_int (by rw [HS.out, Crc.st, if_pos ho])⟩
        case measure => simp [intOf]; omega
      · have ho1 := odd_false x hl ho
        go_wp2
        go_round
        case rel => exact ⟨k + 1, by omega, by go_num, val_int (by rw [HS.out, Crc.st, if_neg ho]; omega)⟩
        case measure => simp [intOf]; omega
    · have : k = 8 := by omega
      subst this
      go_wp2
      go_ret
      exact ⟨ret_int (by rw [HX.out]), rfl⟩

end Go.Proofs.Ytaehagejmeimiaa
