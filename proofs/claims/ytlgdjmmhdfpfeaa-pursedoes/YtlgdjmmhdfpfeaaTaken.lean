/-
  The contract of Taken.
-/
import Derived.Test.YtlgdjmmhdfpfeaaMet
import Derived.Test.YtlgdjmmhdfpfeaaSmall
namespace Go.Proofs.Ytlgdjmmhdfpfeaa
open Go.Proofs Go.RowKit Go.Maps
set_option maxRecDepth 100000
set_option linter.unusedVariables false
set_option linter.unusedSimpArgs false

def ksum : List Hd → Int
  | [] => 0
  | h :: r => h.k + ksum r
theorem ksum_perm {L L' : List Hd} (h : L.Perm L') : ksum L = ksum L' := by
  induction h with
  | nil => rfl
  | cons a _ ih => simp only [ksum, ih]
  | swap a b l => simp only [ksum]; omega
  | trans _ _ i1 i2 => exact i1.trans i2
theorem ksum_snoc (h : Hd) : ∀ L : List Hd, ksum (L ++ [h]) = ksum L + h.k
  | [] => by simp [ksum]
  | y :: r => by rw [List.cons_append]; simp only [ksum, ksum_snoc h r]; omega
theorem ksum_bd : ∀ {L : List Hd}, (∀ y ∈ L, 1 ≤ y.k ∧ y.k ≤ 1000000000) → 0 ≤ ksum L ∧ ksum L ≤ 1000000000 * (L.length : Int)
  | [], _ => by simp [ksum]
  | y :: r, h => by
    have h1 := h y (List.mem_cons_self ..)
    have h2 := ksum_bd fun z hz => h z (List.mem_cons_of_mem _ hz)
    simp only [ksum, List.length_cons]
    omega
theorem ksum_st (t : Nat) : ∀ H : List Hd, ksum (stH H t) = tot H t
  | [] => rfl
  | y :: r => by
    have := ksum_st t r
    unfold stH at this ⊢
    rw [List.filter_cons]
    by_cases e : y.t = t
    · rw [if_pos (by simpa using e)]; simp only [ksum, tot, this]; rw [if_pos (by simpa using e)]
    · rw [if_neg (by simpa using e), this]; simp only [tot]; rw [if_neg (by simpa using e)]; omega
theorem stH_len (H : List Hd) (t : Nat) : (stH H t).length ≤ H.length := List.length_filter_le _ _
theorem key_u32 {key : Value} {kl : Lit} (h : keyOf Try.prog 33 key = some kl) : ∃ o : Nat, key = .int .u32 (o : Int) ∧ kl = .int .u32 (o : Int) ∧ o < 4294967296 := by
  obtain ⟨x, rfl, rfl, hw⟩ := Maps.keyOf_int_inv Try.underlying33 h
  have h1 : 0 ≤ x ∧ x ≤ 4294967295 := by
    have e0 : IntKind.u32.min = 0 := rfl
    have e1 : IntKind.u32.max = 4294967295 := rfl
    simpa [Lit.wf, e0, e1] using hw
  obtain ⟨o, rfl⟩ := Int.eq_ofNat_of_zero_le h1.1
  exact ⟨o, rfl, rfl, by omega⟩

def TR (w0 : World) (b : SB) (q : Ss) (D : DataW Unit) (r : Nat) (v3 : Value) (wr : World) : Prop :=
  ∃ left cnt L, wr.ranges Try.prog 33 rH b.p2 r (Maps.size D) D left cnt ∧ MetH (stH q.H 2) left L ∧ L.length + cnt ≤ 1000 ∧ v3 = .int .i64 (ksum L) ∧ Below w0.heap.size w0 wr ∧ r < wr.heap.size ∧ w0.heap.size ≤ r

set_option maxHeartbeats 4000000 in
theorem taken_any (b : SB) (q : Ss) (w : World) (hA : At w b q) (hI : Inv q) (hl : q.H.length ≤ 1000) : Calls Try.prog 22 #[.pointer (some ⟨b.s, 0, none⟩)] w fun e w' => e = .returned (.int .i64 (tot q.H 2)) ∧ Below w.heap.size w w' := by
  have HA := Lib.hid hA
  have HS := Lib.hid (hI.hs.st 2)
  have HL := Lib.hid (Nat.le_trans (stH_len q.H 2) hl)
  have HKB : Hid (∀ y ∈ stH q.H 2, 1 ≤ y.k ∧ y.k ≤ 1000000000) := Lib.hid (fun y hy => ⟨(hI.hh y (mem_stH.1 hy).1).1, (hI.kb (mem_stH.1 hy).1).1⟩)
  obtain ⟨c0, c1, c2, c3, c4⟩ := hA.c.cells5
  obtain ⟨D, hD1, hD2, hD3⟩ := HA.out.o2
  have HD1 := Lib.hid hD1
  have HD2 := Lib.hid hD2
  have HD3 := Lib.hid hD3
  clear hA hI hD1 hD2 hD3
  go_enter Try.func22, Try.ntmps22
  go_wp2_with (at_range; refine wpList_range_own _ rfl _ 55 rfl 33 68 lawH Try.underlying55 rH b.p2 (Maps.size D) D rfl HD1.out ?_; intro y hrg0 hg0 hs0)
  go_frame
  have RG := Lib.hid hrg0
  have BY : Hid (Below w.heap.size w y) := Lib.hid ((Below.refl w.heap.size w).grown hg0 (Nat.le_refl _) (fun k hk => by cases hk))
  have HYZ : Hid (y.heap.size = w.heap.size + 1) := Lib.hid hs0
  clear hrg0 hg0 hs0 HD1 c0 c1 c2 c3 c4
  go_loopw [3] (fun v3 wr => TR w b q D w.heap.size v3 wr) (fun _ wr => wr.rangeLeft b.p2 w.heap.size)
  case atStart =>
    refine ⟨_, _, [], RG.out, MetH.start HD2.out HS.out, ?_, rfl, BY.out, by rw [HYZ.out]; omega, Nat.le_refl _⟩
    rw [HD3.out]; simpa using HL.out
  case round =>
    obtain ⟨left, cnt, L, hrg, hM, hc, rfl, hB, hr1, hr2⟩ := hrel
    have HM := Lib.hid hM
    have HB := Lib.hid hB
    have HRG := Lib.hid hrg
    have HKL : Hid (∀ y ∈ L, 1 ≤ y.k ∧ y.k ≤ 1000000000) := Lib.hid (fun y hy => HKB.out y (hM.2.1 y hy).1)
    have hbd := ksum_bd HKL.out
    obtain ⟨hbd1, hbd2⟩ := hbd
    clear hrg hM hB
    go_wp2_with (at_next; refine wpList_next_ranges _ rfl _ rfl 33 lawH rH (fun o : Nat => Value.int .u32 (o : Int)) vH (fun key kl hk => by obtain ⟨x, hx, _⟩ := key_u32 hk; exact ⟨x, hx⟩) (fun v y hv => by obtain ⟨c, rfl, _⟩ := rH_inv hv; exact ⟨c, rfl⟩) b.p2 w.heap.size (Maps.size D) _ _ _ rfl HRG.out ?_ ?_)
    · intro hc0 hl0
      have HE : Hid (ksum L = tot q.H 2) := Lib.hid (by rw [ksum_perm (HM.out.perm HS.out hl0), ksum_st])
      clear hl0
      go_wp2
      go_ret
      exact ⟨by rw [HE.out]; rfl, HB.out⟩
    · intro x c kl yd yp w2 cnt2 hkey hlk hv hat hrg2 hlt hg2 hs2 hen
      obtain ⟨x', ex, rfl, hxl⟩ := key_u32 hkey
      obtain rfl : x = x' := by injection ex with _ ex; omega
      rw [rH_mk] at hv
      obtain ⟨rfl, rfl⟩ : dH c = yd ∧ [] = yp := by simpa using hv
      obtain ⟨z, hz, rfl, hzn, hzk⟩ := HD2.out.entry hat
      have HM2 := Lib.hid (HM.out.step HS.out hz hlk)
      have HZK := Lib.hid hzk
      have hzb := HKB.out z hz
      rw [hzk] at hzb
      obtain ⟨hzb1, hzb2⟩ := hzb
      have HRG2 := Lib.hid hrg2
      have HB2 := Lib.hid (HB.out.grown hg2 (Nat.le_of_lt (Nat.lt_of_le_of_lt hr2 hr1)) (fun k hk => by injection hk with hk; omega))
      have HZ2 := Lib.hid hs2
      have HLT := Lib.hid hlt
      clear hkey hlk hv hat hrg2 hlt hg2 hs2 ex hz hzk hzn
      have hll : (L.length : Int) ≤ 1000 := by omega
      go_wp2
      go_roundw
      case rel =>
        refine ⟨_, _, L ++ [z], HRG2.out.alloc _, HM2.out, ?_, ?_, HB2.out.alloc (by have := HZ2.out; omega) _, ?_, hr2⟩
        · have := HLT.out
          rw [List.length_append]; simp; omega
        · rw [ksum_snoc, HZK.out]
        · have h2 := HZ2.out
          simp; omega
      case measure =>
        rw [(HRG2.out.alloc _).left_eq, HRG.out.left_eq]
        exact HLT.out

end Go.Proofs.Ytlgdjmmhdfpfeaa
