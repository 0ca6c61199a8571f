/-
  The plain mathematics of FrameTurned: a frame in which bits of the body within 32 in a row, or bits of the sum, are turned, is none.
-/
import Derived.Test.YtaehagejmeimiaaRowOut
import Derived.Test.YtaehagejmeimiaaMathBits
namespace Go.Proofs.Ytaehagejmeimiaa.Frm
open Go.Proofs.Ytaehagejmeimiaa

theorem num_append (a b : List Nat) : Crc.num (a ++ b) = Crc.num a ^^^ Crc.num b <<< (8 * a.length) := by
  induction a with
  | nil => simp [Crc.num]
  | cons c r ih =>
    rw [List.cons_append, Crc.num, Crc.num, ih, Nat.shiftLeft_xor_distrib, Nat.xor_assoc, List.length_cons, ← Nat.shiftLeft_add]
    congr 3

theorem num_inj (a b : List Nat) (h : a.length = b.length) (ha : ∀ c ∈ a, c < 256) (hb : ∀ c ∈ b, c < 256) (e : Crc.num a = Crc.num b) : a = b := by
  apply List.ext_getElem h
  intro i h1 h2
  have g1 : a[i] = a.getD i 0 := by simp [List.getD, h1]
  have g2 : b[i] = b.getD i 0 := by simp [List.getD, h2]
  have s1 := ha _ (List.getElem_mem h1)
  have s2 := hb _ (List.getElem_mem h2)
  apply Nat.eq_of_testBit_eq
  intro k
  by_cases hk : k < 8
  · rw [g1, g2, ← Crc.num_testBit a ha i k hk, ← Crc.num_testBit b hb i k hk, e]
  · rw [Nat.testBit_lt_two_pow (Nat.lt_of_lt_of_le s1 (Nat.pow_le_pow_right (n := 2) (i := 8) (by decide) (by omega))), Nat.testBit_lt_two_pow (Nat.lt_of_lt_of_le s2 (Nat.pow_le_pow_right (n := 2) (i := 8) (by decide) (by omega)))]

/-- Bits of a body are turned: another checksum. -/
theorem chk_turned (x y : List Nat) (v f : Nat) (h : y.length = x.length) (hf : f ≤ 8 * x.length) (hv : v < 4294967296) (hlt : v <<< f < 2 ^ (8 * x.length)) (hd : Crc.num y = Crc.num x ^^^ v <<< f) (h0 : v ≠ 0) : chk x ≠ chk y := by
  intro e
  unfold chk at e
  rw [← h] at e
  have hl2 : (be 2 y.length ++ x).length = 2 + x.length := by rw [List.length_append, be_len]
  have := (Crc.crc_differ (be 2 y.length ++ y) (be 2 y.length ++ x) v (16 + f) (by rw [List.length_append, List.length_append, h]) (by rw [hl2]; omega) hv ?_ ?_).1 e.symm
  · exact h0 this
  · rw [hl2, Nat.add_comm 16 f, Nat.shiftLeft_add, Nat.shiftLeft_eq, show 8 * (2 + x.length) = 8 * x.length + 16 by omega, Nat.pow_add]
    exact Nat.mul_lt_mul_of_pos_right hlt (by decide)
  · rw [num_append, num_append, hd, be_len, Nat.shiftLeft_xor_distrib, Nat.xor_assoc, ← Nat.shiftLeft_add]
    congr 3; omega

theorem be_val (m : List Nat) (h : m.length = 4) (hb : ∀ c ∈ m, c < 256) : ∃ s, s < 4294967296 ∧ m = be 4 s := by
  rcases m with _ | ⟨a, _ | ⟨b, _ | ⟨c, _ | ⟨d, _ | ⟨e, r⟩⟩⟩⟩⟩ <;> first | (simp at h; done) | skip
  have ha := hb a (by simp); have hb1 := hb b (by simp); have hc := hb c (by simp); have hd := hb d (by simp)
  refine ⟨((a * 256 + b) * 256 + c) * 256 + d, by omega, ?_⟩
  rw [be_four]
  simp only [List.cons.injEq, and_true]
  omega

/-- A row, one of whose frames is written out. -/
theorem row_mid (good : List (List Nat)) (k : Nat) (h : k < good.length) : row good = row (good.take k) ++ (head good[k].length (chk good[k]) ++ (good[k] ++ row (good.drop (k + 1)))) := by
  conv => lhs; rw [← List.take_append_drop k good]
  rw [row_append, List.drop_eq_getElem_cons h, row_cons, frm, List.append_assoc]

theorem endOf_head (n s : Nat) (t : List Nat) : endOf (head n s ++ t) = 31 := by
  rw [head, List.cons_append]
  exact endOf_bad _ _ (by decide)

end Go.Proofs.Ytaehagejmeimiaa.Frm
