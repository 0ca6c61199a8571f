/-
  The contracts of the binary searches, begunAt and upTo: for every table.
-/
import Derived.Test.YtngnfgnaagbpjaaCmp
namespace Go.Proofs.Ytngnfgnaagbpjaa
open Go.RowKit

def BsR (w : World) (n : Nat) (t : Tbl) (l : Nat) (i j : Value) (wr : World) : Prop :=
  ∃ p q : Nat, p ≤ q ∧ q ≤ n ∧ i = .int .i64 p ∧ j = .int .i64 q ∧ (∀ k, k < p → ls t k < l) ∧ (∀ k, q ≤ k → k < n → l ≤ ls t k) ∧ Below w.heap.size w wr
def BsPost (w : World) (n : Nat) (t : Tbl) (l : Nat) (x : Ending) (w' : World) : Prop :=
  ∃ m : Nat, m ≤ n ∧ (∀ k, k < m → ls t k < l) ∧ (∀ k, m ≤ k → k < n → l ≤ ls t k) ∧ x = .returned (.tuple #[.int .i64 (m : Nat), .bool (decide (m < n ∧ ls t m = l))]) ∧ Below w.heap.size w w'

set_option maxRecDepth 100000 in
set_option maxHeartbeats 2000000 in
theorem search64 (a : Option Addr) (n cap l : Nat) (t : Tbl) (w : World) (hT : Tab w a n t) (hn : n ≤ 1000000) (hM : isT t) :
    Calls Try.prog 32 #[.slice a n cap, .int .u64 (l : Int), .func (.func 33) #[] #[]] w (BsPost w n t l) := by
  have HT := Lib.hid hT
  have HM := Lib.hid hM
  have HLEN := Lib.hid hT.1
  have C := fun e x W => Lib.hid (compareLsn_any e x l W)
  clear hT hM
  go_enter Try.func32, Try.ntmps32
  go_wp2_with fail
  go_loopw [9, 10] (BsR w n t l) (fun i j _ => (intOf j).toNat - (intOf i).toNat)
  case atStart => exact ⟨0, n, by omega, by omega, rfl, rfl, (fun k h => by omega), (fun k h1 h2 => by omega), Below.refl _ _⟩
  case round =>
    obtain ⟨p, q, hpq, hqn, rfl, rfl, hlo, hhi, hbel⟩ := hrel
    have HLO := Lib.hid hlo
    have HHI := Lib.hid hhi
    have HBE := Lib.hid hbel
    clear hlo hhi hbel
    by_cases hlt : p < q
    · obtain ⟨h, hh⟩ : ∃ h, (p + q) / 2 = h := ⟨_, rfl⟩
      have hb1 : p ≤ h := by omega
      have hb2 : h < q := by omega
      have hmid : ((p : Int) + (q : Int)) / 2 = (h : Int) := by omega
      clear hh
      obtain ⟨b, off, rfl, hat⟩ := (HT.out.below HBE.out).2.2 (by omega)
      obtain ⟨d0, d1⟩ := hat h (by omega)
      have hi : (h : Int) < (n : Int) := by omega
      have HMN := Lib.hid (fun k (h1 : k < h) => (HM.out.mono (i := k) (j := h) h1 (by rw [HLEN.out]; omega)).2)
      have HMX := Lib.hid (fun k (h1 : h ≤ k) (h2 : k < n) => (HM.out.le (i := h) (j := k) h1 (by rw [HLEN.out]; omega)).2)
      clear hat
      generalize ep t h = e at *
      generalize hlx : ls t h = x at *
      have HLX := Lib.hid hlx
      clear hlx
      have CC := C e x wr
      by_cases hx : x < l
      · rw [show cmpN x l = -1 from by unfold cmpN; rw [if_pos hx]] at CC
        go_wp2_with fail
        with_reducible refine CC.out.mono ?_
        rintro y w2 ⟨rfl, hb⟩
        have HB2 := Lib.hid (HBE.out.trans (hb.mono HBE.out.size))
        clear hb CC C d0 d1
        go_wp2
        go_roundw
        case rel =>
          refine ⟨h + 1, q, by omega, hqn, by go_num, rfl, fun k hk => ?_, HHI.out, HB2.out⟩
          by_cases hkh : k = h
          · subst hkh; rw [HLX.out]; exact hx
          · have := HMN.out k (by omega); omega
        case measure => simp [intOf]; omega
      · obtain ⟨c, hc0, hc⟩ : ∃ c : Int, 0 ≤ c ∧ cmpN x l = c := ⟨_, by unfold cmpN; rw [if_neg hx]; split <;> omega, rfl⟩
        rw [hc] at CC
        clear hc
        have hcd : decide (c < 0) = false := by rw [decide_eq_false_iff_not]; omega
        go_wp2_with fail
        with_reducible refine CC.out.mono ?_
        rintro y w2 ⟨rfl, hb⟩
        have HB2 := Lib.hid (HBE.out.trans (hb.mono HBE.out.size))
        clear hb CC C d0 d1
        go_wp2
        go_roundw
        case rel =>
          refine ⟨p, h, by omega, by omega, rfl, rfl, HLO.out, fun k hk1 hk2 => ?_, HB2.out⟩
          have := HMX.out k hk1 hk2; omega
        case measure => simp [intOf]; omega
    · have hpq2 : q = p := by omega
      subst hpq2
      by_cases hin : q < n
      · obtain ⟨b, off, rfl, hat⟩ := (HT.out.below HBE.out).2.2 (by omega)
        obtain ⟨d0, d1⟩ := hat q hin
        have hi : (q : Int) < (n : Int) := by omega
        clear hat
        generalize ep t q = e at *
        generalize hlx : ls t q = x at *
        have HLX := Lib.hid hlx
        clear hlx
        have CC := C e x wr
        by_cases hx : x = l
        · subst hx
          rw [show cmpN x x = 0 from by unfold cmpN; rw [if_neg (by omega), if_neg (by omega)]] at CC
          go_wp2_with fail
          with_reducible refine CC.out.mono ?_
          rintro y w2 ⟨rfl, hb⟩
          have HB2 := Lib.hid (HBE.out.trans (hb.mono HBE.out.size))
          clear hb CC C d0 d1
          go_wp2
          go_ret2
          refine ⟨q, by omega, HLO.out, HHI.out, ?_, HB2.out⟩
          rw [HLX.out, show decide (q < n ∧ x = x) = true from by simpa using hin]
          rfl
        · obtain ⟨c, hc0, hc⟩ : ∃ c : Int, c ≠ 0 ∧ cmpN x l = c := ⟨_, by unfold cmpN; split; omega; split <;> omega, rfl⟩
          rw [hc] at CC
          clear hc
          have hcd : (c == 0) = false := by rw [beq_eq_false_iff_ne]; omega
          go_wp2_with fail
          with_reducible refine CC.out.mono ?_
          rintro y w2 ⟨rfl, hb⟩
          have HB2 := Lib.hid (HBE.out.trans (hb.mono HBE.out.size))
          clear hb CC C d0 d1
          go_wp2
          go_ret2
          refine ⟨q, by omega, HLO.out, HHI.out, ?_, HB2.out⟩
          rw [HLX.out, show decide (q < n ∧ x = l) = false from by simp [hx]]
          rfl
      · have hqq : decide (q < n) = false := by rw [decide_eq_false_iff_not]; exact hin
        go_wp2
        go_ret2
        refine ⟨q, by omega, HLO.out, HHI.out, ?_, HBE.out⟩
        rw [show decide (q < n ∧ ls t q = l) = false from by simp [hin]]
        rfl


set_option maxHeartbeats 400000 in
theorem begun_any (a : Option Addr) (n cap l : Nat) (t : Tbl) (w : World) (hT : Tab w a n t) (hn : n ≤ 1000000) (hM : isT t) :
    Calls Try.prog 27 #[.slice a n cap, .int .u64 (l : Int)] w fun x w' => x = .returned (.int .i64 (cL t l : Nat)) ∧ Below w.heap.size w w' := by
  have CC := Lib.hid (search64 a n cap l t w hT hn hM)
  have HLEN := Lib.hid hT.1
  have HM := Lib.hid hM
  clear hT hM
  go_enter Try.func27, Try.ntmps27
  go_wp2_with fail
  with_reducible refine CC.out.mono ?_
  rintro x w2 ⟨m, hm, h1, h2, rfl, hb⟩
  have HF := Lib.hid (cL_found HM.out (l := l) (m := m) (by rw [HLEN.out]; exact hm) h1 (by rw [HLEN.out]; exact h2))
  rw [HLEN.out] at HF
  clear h1 h2 CC
  by_cases hc : m < n ∧ ls t m = l
  · rw [if_pos hc] at HF
    rw [show decide (m < n ∧ ls t m = l) = true from by rw [decide_eq_true_iff]; exact hc]
    clear hc
    go_wp2
    go_ret
    exact ⟨ret_int (by rw [HF.out]; omega), hb⟩
  · rw [if_neg hc] at HF
    rw [show decide (m < n ∧ ls t m = l) = false from by rw [decide_eq_false_iff_not]; exact hc]
    clear hc
    go_wp2
    go_ret
    exact ⟨ret_int (by rw [HF.out]), hb⟩

def BsR32 (w : World) (n : Nat) (t : Tbl) (l : Nat) (i j : Value) (wr : World) : Prop :=
  ∃ p q : Nat, p ≤ q ∧ q ≤ n ∧ i = .int .i64 p ∧ j = .int .i64 q ∧ (∀ k, k < p → ep t k < l) ∧ (∀ k, q ≤ k → k < n → l ≤ ep t k) ∧ Below w.heap.size w wr
def BsPost32 (w : World) (n : Nat) (t : Tbl) (l : Nat) (x : Ending) (w' : World) : Prop :=
  ∃ m : Nat, m ≤ n ∧ (∀ k, k < m → ep t k < l) ∧ (∀ k, m ≤ k → k < n → l ≤ ep t k) ∧ x = .returned (.tuple #[.int .i64 (m : Nat), .bool (decide (m < n ∧ ep t m = l))]) ∧ Below w.heap.size w w'

set_option maxRecDepth 100000 in
set_option maxHeartbeats 2000000 in
theorem search32 (a : Option Addr) (n cap l : Nat) (t : Tbl) (w : World) (hT : Tab w a n t) (hn : n ≤ 1000000) (hM : isT t) :
    Calls Try.prog 34 #[.slice a n cap, .int .u32 (l : Int), .func (.func 35) #[] #[]] w (BsPost32 w n t l) := by
  have HT := Lib.hid hT
  have HM := Lib.hid hM
  have HLEN := Lib.hid hT.1
  have C := fun x e W => Lib.hid (compareEpoch_any x e l W)
  clear hT hM
  go_enter Try.func34, Try.ntmps34
  go_wp2_with fail
  go_loopw [9, 10] (BsR32 w n t l) (fun i j _ => (intOf j).toNat - (intOf i).toNat)
  case atStart => exact ⟨0, n, by omega, by omega, rfl, rfl, (fun k h => by omega), (fun k h1 h2 => by omega), Below.refl _ _⟩
  case round =>
    obtain ⟨p, q, hpq, hqn, rfl, rfl, hlo, hhi, hbel⟩ := hrel
    have HLO := Lib.hid hlo
    have HHI := Lib.hid hhi
    have HBE := Lib.hid hbel
    clear hlo hhi hbel
    by_cases hlt : p < q
    · obtain ⟨h, hh⟩ : ∃ h, (p + q) / 2 = h := ⟨_, rfl⟩
      have hb1 : p ≤ h := by omega
      have hb2 : h < q := by omega
      have hmid : ((p : Int) + (q : Int)) / 2 = (h : Int) := by omega
      clear hh
      obtain ⟨b, off, rfl, hat⟩ := (HT.out.below HBE.out).2.2 (by omega)
      obtain ⟨d0, d1⟩ := hat h (by omega)
      have hi : (h : Int) < (n : Int) := by omega
      have HMN := Lib.hid (fun k (h1 : k < h) => (HM.out.mono (i := k) (j := h) h1 (by rw [HLEN.out]; omega)).1)
      have HMX := Lib.hid (fun k (h1 : h ≤ k) (h2 : k < n) => (HM.out.le (i := h) (j := k) h1 (by rw [HLEN.out]; omega)).1)
      clear hat
      generalize ls t h = e at *
      generalize hlx : ep t h = x at *
      have HLX := Lib.hid hlx
      clear hlx
      have CC := C x e wr
      by_cases hx : x < l
      · rw [show cmpN x l = -1 from by unfold cmpN; rw [if_pos hx]] at CC
        go_wp2_with fail
        with_reducible refine CC.out.mono ?_
        rintro y w2 ⟨rfl, hb⟩
        have HB2 := Lib.hid (HBE.out.trans (hb.mono HBE.out.size))
        clear hb CC C d0 d1
        go_wp2
        go_roundw
        case rel =>
          refine ⟨h + 1, q, by omega, hqn, by go_num, rfl, fun k hk => ?_, HHI.out, HB2.out⟩
          by_cases hkh : k = h
          · subst hkh; rw [HLX.out]; exact hx
          · have := HMN.out k (by omega); omega
        case measure => simp [intOf]; omega
      · obtain ⟨c, hc0, hc⟩ : ∃ c : Int, 0 ≤ c ∧ cmpN x l = c := ⟨_, by unfold cmpN; rw [if_neg hx]; split <;> omega, rfl⟩
        rw [hc] at CC
        clear hc
        have hcd : decide (c < 0) = false := by rw [decide_eq_false_iff_not]; omega
        go_wp2_with fail
        with_reducible refine CC.out.mono ?_
        rintro y w2 ⟨rfl, hb⟩
        have HB2 := Lib.hid (HBE.out.trans (hb.mono HBE.out.size))
        clear hb CC C d0 d1
        go_wp2
        go_roundw
        case rel =>
          refine ⟨p, h, by omega, by omega, rfl, rfl, HLO.out, fun k hk1 hk2 => ?_, HB2.out⟩
          have := HMX.out k hk1 hk2; omega
        case measure => simp [intOf]; omega
    · have hpq2 : q = p := by omega
      subst hpq2
      by_cases hin : q < n
      · obtain ⟨b, off, rfl, hat⟩ := (HT.out.below HBE.out).2.2 (by omega)
        obtain ⟨d0, d1⟩ := hat q hin
        have hi : (q : Int) < (n : Int) := by omega
        clear hat
        generalize ls t q = e at *
        generalize hlx : ep t q = x at *
        have HLX := Lib.hid hlx
        clear hlx
        have CC := C x e wr
        by_cases hx : x = l
        · subst hx
          rw [show cmpN x x = 0 from by unfold cmpN; rw [if_neg (by omega), if_neg (by omega)]] at CC
          go_wp2_with fail
          with_reducible refine CC.out.mono ?_
          rintro y w2 ⟨rfl, hb⟩
          have HB2 := Lib.hid (HBE.out.trans (hb.mono HBE.out.size))
          clear hb CC C d0 d1
          go_wp2
          go_ret2
          refine ⟨q, by omega, HLO.out, HHI.out, ?_, HB2.out⟩
          rw [HLX.out, show decide (q < n ∧ x = x) = true from by simpa using hin]
          rfl
        · obtain ⟨c, hc0, hc⟩ : ∃ c : Int, c ≠ 0 ∧ cmpN x l = c := ⟨_, by unfold cmpN; split; omega; split <;> omega, rfl⟩
          rw [hc] at CC
          clear hc
          have hcd : (c == 0) = false := by rw [beq_eq_false_iff_ne]; omega
          go_wp2_with fail
          with_reducible refine CC.out.mono ?_
          rintro y w2 ⟨rfl, hb⟩
          have HB2 := Lib.hid (HBE.out.trans (hb.mono HBE.out.size))
          clear hb CC C d0 d1
          go_wp2
          go_ret2
          refine ⟨q, by omega, HLO.out, HHI.out, ?_, HB2.out⟩
          rw [HLX.out, show decide (q < n ∧ x = l) = false from by simp [hx]]
          rfl
      · have hqq : decide (q < n) = false := by rw [decide_eq_false_iff_not]; exact hin
        go_wp2
        go_ret2
        refine ⟨q, by omega, HLO.out, HHI.out, ?_, HBE.out⟩
        rw [show decide (q < n ∧ ep t q = l) = false from by simp [hin]]
        rfl


set_option maxHeartbeats 400000 in
theorem upto_any (a : Option Addr) (n cap l : Nat) (t : Tbl) (w : World) (hT : Tab w a n t) (hn : n ≤ 1000000) (hM : isT t) :
    Calls Try.prog 28 #[.slice a n cap, .int .u32 (l : Int)] w fun x w' => x = .returned (.int .i64 (cE t l : Nat)) ∧ Below w.heap.size w w' := by
  have CC := Lib.hid (search32 a n cap l t w hT hn hM)
  have HLEN := Lib.hid hT.1
  have HM := Lib.hid hM
  clear hT hM
  go_enter Try.func28, Try.ntmps28
  go_wp2_with fail
  with_reducible refine CC.out.mono ?_
  rintro x w2 ⟨m, hm, h1, h2, rfl, hb⟩
  have HF := Lib.hid (cE_found HM.out (l := l) (m := m) (by rw [HLEN.out]; exact hm) h1 (by rw [HLEN.out]; exact h2))
  rw [HLEN.out] at HF
  clear h1 h2 CC
  by_cases hc : m < n ∧ ep t m = l
  · rw [if_pos hc] at HF
    rw [show decide (m < n ∧ ep t m = l) = true from by rw [decide_eq_true_iff]; exact hc]
    clear hc
    go_wp2
    go_ret
    exact ⟨ret_int (by rw [HF.out]; omega), hb⟩
  · rw [if_neg hc] at HF
    rw [show decide (m < n ∧ ep t m = l) = false from by rw [decide_eq_false_iff_not]; exact hc]
    clear hc
    go_wp2
    go_ret
    exact ⟨ret_int (by rw [HF.out]), hb⟩

end Go.Proofs.Ytngnfgnaagbpjaa
