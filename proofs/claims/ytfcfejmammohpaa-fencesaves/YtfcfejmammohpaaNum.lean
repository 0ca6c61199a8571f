/-
  The contract of the document's Num.
-/
import Derived.Test.YtfcfejmammohpaaLend
namespace Go.Proofs.Ytfcfejmammohpaa
open Go.RowKit
set_option maxRecDepth 100000


/-- The j lowest bytes of n, the lowest first. -/
def lel (j n : Nat) : List Nat := (List.range j).map fun i => n / 256 ^ i % 256
theorem lel_len (j n : Nat) : (lel j n).length = j := by simp [lel]
theorem lel_succ (j n : Nat) : lel (j + 1) n = lel j n ++ [n / 256 ^ j % 256] := by
  unfold lel; rw [List.range_succ, List.map_append]; rfl
theorem lel_at (j n i : Nat) (h : i < j) : (lel j n).getD i 0 = n / 256 ^ i % 256 := by simp [lel, List.getD, h]
theorem be_at (k n i : Nat) (h : i < k) : (Ent.be k n).getD i 0 = n / 256 ^ (k - 1 - i) % 256 := by
  simp [Ent.be, List.getD, h]
  rw [show (256 : Nat) = 2 ^ 8 from rfl, ← Nat.pow_mul]

def Nu1R (w : World) (n k : Nat) (x v i : Value) (wr : World) : Prop :=
  ∃ j : Nat, j ≤ k ∧ i = .int .i64 j ∧ x = .int .u64 (n / 256 ^ j : Nat) ∧ Own wr w.heap.size v (lel j n) ∧ Below w.heap.size w wr
def Nu2R (w2 : World) (n k : Nat) (v i : Value) (wr : World) : Prop :=
  ∃ j : Nat, j ≤ k ∧ i = .int .i64 ((j : Int) - 1) ∧ Own wr w2.heap.size v ((Ent.be k n).take (k - j)) ∧ Below w2.heap.size w2 wr
def NumPost (w : World) (n k : Nat) (e : Ending) (w' : World) : Prop := ∃ v, e = .returned v ∧ Own w' w.heap.size v (Ent.be k n) ∧ Below w.heap.size w w'

set_option maxHeartbeats 1000000 in
theorem num_any (n k : Nat) (w : World) (hk : k ≤ 8) (hn : n ≤ 18446744073709551615) :
    Calls Try.prog 96 #[.int .u64 n, .int .i64 k] w (NumPost w n k) := by
  go_enter Try.func96, Try.ntmps96
  go_wp2_with fail
  go_loopw [0, 5, 6] (Nu1R w n k) (fun _ _ i _ => k - (intOf i).toNat)
  case atStart => exact ⟨0, by omega, rfl, val_int (by rw [Nat.pow_zero, Nat.div_one]), Own.nil _ _, Below.refl _ _⟩
  case round =>
    obtain ⟨j, hj, rfl, rfl, hO, hbel⟩ := hrel
    have hxl : n / 256 ^ j ≤ 18446744073709551615 := Nat.le_trans (Nat.div_le_self _ _) hn
    have hsu := lel_succ j n
    have hll := lel_len j n
    by_cases hlt : j < k
    · have hdiv : n / 256 ^ (j + 1) = n / 256 ^ j / 256 := by rw [Nat.pow_succ, Nat.div_div_eq_div_mul]
      generalize n / 256 ^ j = x at *
      have hx : x % 256 < 256 := Nat.mod_lt _ (by decide)
      have HO := Lib.hid hO
      have HSU := Lib.hid hsu
      have HDIV := Lib.hid hdiv
      have HLL := Lib.hid hll
      clear hO hsu hdiv hll
      have hbys : ∀ W : World, Bys (W.alloc (.cells #[.int .u8 ((x : Int) % 256)] 5)) (some ⟨W.heap.size, 0, none⟩) 1 [x % 256] := fun W => Bys.const W _ [x % 256] (0, 0) 1 (by simp) rfl (by simpa using hx)
      have HBYS := Lib.hid hbys
      clear hbys
      go_wp2_with (first
        | ((with_reducible refine wpl_append (some 19) _ _ _ (.tmp 14) (.tmp 18) w.heap.size _ (lel j n) (some ⟨wr.heap.size, 0, none⟩) 1 1 [x % 256] ?hs ?hx (HO.out.alloc _) (HBYS.out _) ?ha ?hm ?hz ?_); (case hs => rfl); (case hx => rfl); (case ha => (intro h; cases h)); (case hm => (rw [HLL.out]; omega)); (case hz => exact Nat.le_trans hbel.size (by simp)); (intro v' w' ho hg hv)))
      go_roundw
      case rel => exact ⟨j + 1, by omega, by go_num, val_int (by rw [HDIV.out]; omega), by rw [HSU.out]; exact ho, (HO.out.alloc _).grows hg (hbel.alloc hbel.size _) (Nat.le_refl _) (Nat.le_trans hbel.size (by simp))⟩
      case measure => simp [intOf]; omega
    · have hjk : j = k := by omega
      subst hjk
      obtain ⟨A, c, rfl, hB, _, _, _⟩ := hO.slice
      rw [hll] at hB ⊢
      have HB := Lib.hid hB
      clear hO hB hsu hll hxl
      generalize n / 256 ^ j = x0
      obtain ⟨w2, hw2⟩ : ∃ w2, w2 = wr := ⟨wr, rfl⟩
      subst hw2
      go_wp2_with fail
      go_loopw [7, 8] (Nu2R w2 n j) (fun _ i _ => ((intOf i) + 1).toNat)
      case atStart => exact ⟨j, Nat.le_refl _, rfl, by rw [Nat.sub_self, List.take_zero]; exact Own.nil _ _, Below.refl _ _⟩
      case round =>
        obtain ⟨i, hi, rfl, hO, hb2⟩ := hrel
        rcases i with _ | i
        · rw [show ((0 : Nat) : Int) - 1 = -1 from rfl]
          rw [Nat.sub_zero, List.take_of_length_le (by rw [Ent.be_len]; exact Nat.le_refl _)] at hO
          have HO := Lib.hid hO
          clear hO
          go_wp2
          go_ret
          exact ⟨_, rfl, HO.out.mono hbel.size, hbel.trans (hb2.mono hbel.size)⟩
        · rw [show ((i + 1 : Nat) : Int) - 1 = (i : Int) from by omega]
          obtain ⟨b, off, rfl, hc⟩ := HB.out.2.2 (by omega)
          have hci := hc i (by omega)
          rw [lel_at j n i (by omega)] at hci
          have hcw := (hb2.cell (block_lt_of_cell hci)).trans hci
          have htk : (Ent.be j n).take (j - i) = (Ent.be j n).take (j - (i + 1)) ++ [n / 256 ^ i % 256] := by
            rw [show j - i = j - (i + 1) + 1 by omega, take_one _ _ (by rw [Ent.be_len]; omega), be_at j n _ (by omega), show j - 1 - (j - (i + 1)) = i by omega]
          have hy : n / 256 ^ i % 256 < 256 := Nat.mod_lt _ (by decide)
          have htl : ((Ent.be j n).take (j - (i + 1))).length ≤ 8 := by rw [List.length_take, Ent.be_len]; omega
          generalize n / 256 ^ i % 256 = y at *
          have HO := Lib.hid hO
          have HTK := Lib.hid htk
          clear hO htk hc hci
          go_wp2_with (first
            | ((with_reducible refine wpl_append (some 34) _ _ _ (.tmp 28) (.tmp 33) w2.heap.size _ ((Ent.be j n).take (j - (i + 1))) (some ⟨wr.heap.size, 0, none⟩) 1 1 [y] ?hs ?hx (HO.out.alloc _) (Bys.const wr _ [y] (0, 0) 1 rfl rfl ?hb) ?ha ?hm ?hz ?_); (case hs => rfl); (case hx => rfl); (case hb => (simp; omega)); (case ha => (intro h; cases h)); (case hm => omega); (case hz => exact Nat.le_trans hb2.size (by simp)); (intro v' w' ho hg hv)))
          go_roundw
          case rel => exact ⟨i, by omega, rfl, by rw [HTK.out]; exact ho, (HO.out.alloc _).grows hg (hb2.alloc hb2.size _) (Nat.le_refl _) (Nat.le_trans hb2.size (by simp))⟩
          case measure => simp [intOf]


end Go.Proofs.Ytfcfejmammohpaa
