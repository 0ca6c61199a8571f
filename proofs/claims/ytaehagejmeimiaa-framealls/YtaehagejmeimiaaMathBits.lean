/-
  Plain mathematics of the checksum, bit by bit: the register behind the first i bits, and that the whole is the checksum. No condition.
-/
import Derived.Test.YtaehagejmeimiaaMath
namespace Crc

theorem num_testBit (l : List Nat) (hl : ∀ c ∈ l, c < 256) (i k : Nat) (hk : k < 8) : (num l).testBit (8 * i + k) = (l.getD i 0).testBit k := by
  induction l generalizing i with
  | nil => simp [num]
  | cons c r ih =>
    simp only [num]
    rw [Nat.testBit_xor, Nat.testBit_shiftLeft]
    rcases i with _ | i
    · rw [Nat.mul_zero, Nat.zero_add, List.getD_cons_zero]
      have : ¬ k ≥ 8 := by omega
      simp [this]
    · rw [List.getD_cons_succ]
      have hc : c < 2 ^ (8 * (i + 1) + k) := Nat.lt_of_lt_of_le (hl c (by simp)) (by
        have : 2 ^ 8 ≤ 2 ^ (8 * (i + 1) + k) := Nat.pow_le_pow_right (by decide) (by omega)
        simpa using this)
      rw [Nat.testBit_lt_two_pow hc]
      have h8 : 8 * (i + 1) + k ≥ 8 := by omega
      have e : 8 * (i + 1) + k - 8 = 8 * i + k := by omega
      rw [e, ← ih (fun x hx => hl x (by simp [hx])) i]
      simp [h8]

theorem num_lt (l : List Nat) (hl : ∀ c ∈ l, c < 256) : num l < 2 ^ (8 * l.length) := by
  induction l with
  | nil => simp [num]
  | cons c r ih =>
    simp only [num, List.length_cons]
    have h1 := ih (fun x hx => hl x (by simp [hx]))
    have hc := hl c (by simp)
    apply Nat.xor_lt_two_pow
    · exact Nat.lt_of_lt_of_le hc (by
        have : 2 ^ 8 ≤ 2 ^ (8 * (r.length + 1)) := Nat.pow_le_pow_right (by decide) (by omega)
        simpa using this)
    · rw [Nat.shiftLeft_eq, Nat.mul_add, Nat.mul_one, Nat.pow_add]
      exact Nat.mul_lt_mul_of_pos_right h1 (by decide)

/-- The register behind the first i bits. -/
def reg (N i : Nat) : Nat := stn i (ones ^^^ N % 2 ^ i)
theorem reg_zero (N : Nat) : reg N 0 = ones := by simp [reg, stn, Nat.mod_one]
def b2n (b : Bool) : Nat := if b then 1 else 0
theorem reg_succ (N i : Nat) : reg N (i + 1) = st (reg N i ^^^ b2n (N.testBit i)) := by
  unfold reg
  rw [stn_succ', mod_succ, ← Nat.xor_assoc, stn_xor i (ones ^^^ N % 2 ^ i)]
  congr 2
  have hb : (N / 2 ^ i % 2 = 1) ↔ N.testBit i = true := by
    rw [Nat.testBit_eq_decide_div_mod_eq]; simp
  by_cases h : N / 2 ^ i % 2 = 1
  · rw [if_pos h, hb.1 h]
    have := stn_shift i 1
    rw [Nat.one_shiftLeft] at this
    rw [this]; rfl
  · rw [if_neg h, stn_zero]
    have : N.testBit i = false := by
      cases hq : N.testBit i with
      | false => rfl
      | true => exact absurd (hb.2 hq) h
    rw [this]; rfl
theorem reg_lt (N i : Nat) : reg N i < 4294967296 := by
  induction i with
  | zero => rw [reg_zero]; decide
  | succ i ih =>
    rw [reg_succ]
    apply st_lt
    apply xor_lt ih
    unfold b2n; split <;> decide
theorem st_bit (R : Nat) (b : Bool) : st (R ^^^ b2n b) = if (R.testBit 0 != b) = true then R / 2 ^^^ poly else R / 2 := by
  have h2 : (R ^^^ b2n b) / 2 = R / 2 := by
    rw [xor_div_two]
    have : b2n b / 2 = 0 := by unfold b2n; split <;> decide
    rw [this, Nat.xor_zero]
  unfold st
  rw [h2, xor_mod_two, Nat.testBit_zero]
  rcases Nat.mod_two_eq_zero_or_one R with h | h
  · cases b
    · rw [if_neg (by simp [b2n]; omega), if_neg (by simp [h])]
    · rw [if_pos (by simp [b2n]; omega), if_pos (by simp [h])]
  · cases b
    · rw [if_pos (by simp [b2n]; omega), if_pos (by simp [h])]
    · rw [if_neg (by simp [b2n]; omega), if_neg (by simp [h])]
theorem reg_all (l : List Nat) (hl : ∀ c ∈ l, c < 256) : ones ^^^ reg (num l) (8 * l.length) = crc l := by
  unfold crc more reg
  rw [Nat.xor_zero, feed_num, Nat.mod_eq_of_lt (num_lt l hl)]

end Crc
