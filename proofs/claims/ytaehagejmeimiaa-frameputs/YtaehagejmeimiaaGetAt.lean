/-
  The contract of frame.Get: for every slice of bytes, at every place.
-/
import Derived.Test.YtaehagejmeimiaaGet
namespace Go.Proofs.Ytaehagejmeimiaa
open Go.RowKit

theorem getS_low (l : List Nat) (i : Int) (h : i < 0) : Frm.getS l i = ([], 0, 2) := by unfold Frm.getS; rw [if_pos (.inl h)]
theorem getS_high (l : List Nat) (i : Int) (h : (l.length : Int) < i) : Frm.getS l i = ([], 0, 2) := by unfold Frm.getS; rw [if_pos (.inr h)]
theorem getS_empty (l : List Nat) (k : Nat) (hk : k ≤ l.length) (h : k = l.length ∨ l.getD k 0 = 0) : Frm.getS l k = ([], 0, 30) := by
  unfold Frm.getS; rw [if_neg (by omega), Int.toNat_natCast, if_pos h]
theorem getS_bad (l : List Nat) (k : Nat) (hk : k < l.length) (h : l.getD k 0 ≠ 0) (ho : Frm.opn (l.drop k) = none) : Frm.getS l k = ([], 0, 31) := by
  unfold Frm.getS; rw [if_neg (by omega), Int.toNat_natCast, if_neg (by omega), ho]
theorem getS_some (l x : List Nat) (k : Nat) (hk : k < l.length) (h : l.getD k 0 ≠ 0) (ho : Frm.opn (l.drop k) = some x) : Frm.getS l k = (x, k + 8 + x.length, 0) := by
  unfold Frm.getS; rw [if_neg (by omega), Int.toNat_natCast, if_neg (by omega), ho]

def GetPost (w : World) (l : List Nat) (i : Int) (e : Ending) (w' : World) : Prop :=
  ∃ v, e = .returned (.tuple #[v, .int .i64 ((Frm.getS l i).2.1 : Nat), .int .i64 ((Frm.getS l i).2.2 : Nat)]) ∧ Own w' w.heap.size v (Frm.getS l i).1 ∧ Below w.heap.size w w'

theorem getPost_mk {w w' : World} {l x : List Nat} {i : Int} {v : Value} {e : Ending} {a b : Nat} {p q : Int} (hg : Frm.getS l i = (x, a, b)) (he : e = .returned (.tuple #[v, .int .i64 p, .int .i64 q])) (hp : p = (a : Nat)) (hq : q = (b : Nat)) (hO : Own w' w.heap.size v x) (hb : Below w.heap.size w w') : GetPost w l i e w' := by
  unfold GetPost
  rw [hg]
  subst hp hq
  exact ⟨v, he, hO, hb⟩

set_option maxHeartbeats 400000 in
theorem get_arg (a : Option Addr) (n cap : Nat) (l : List Nat) (i : Int) (w : World) (hB : Bys w a n l) (hm : n ≤ maxLen) (hi : i < 0 ∨ (n : Int) < i) :
    Calls Try.prog 20 #[.slice a n cap, .int .i64 i] w (GetPost w l i) := by
  have HL := Lib.hid hB.1
  clear hB
  unfold maxLen at hm
  rcases hi with hi | hi
  · have hd : decide (i < 0) = true := by simpa using hi
    go_enter Try.func20, Try.ntmps20
    go_wp2
    go_ret3
    exact getPost_mk (getS_low l i hi) rfl rfl rfl (Own.nil _ _) (Below.refl _ _)
  · have hd : decide (i < 0) = false := by simp; omega
    go_enter Try.func20, Try.ntmps20
    go_wp2
    go_ret3
    exact getPost_mk (getS_high l i (by rw [HL.out]; exact hi)) rfl rfl rfl (Own.nil _ _) (Below.refl _ _)

set_option maxHeartbeats 400000 in
theorem get_end (a : Option Addr) (n cap : Nat) (l : List Nat) (w : World) (hB : Bys w a n l) :
    Calls Try.prog 20 #[.slice a n cap, .int .i64 n] w (GetPost w l n) := by
  have HL := Lib.hid hB.1
  clear hB
  go_enter Try.func20, Try.ntmps20
  go_wp2
  go_ret3
  exact getPost_mk (getS_empty l n (by rw [HL.out]; exact Nat.le_refl _) (.inl HL.out.symm)) rfl rfl rfl (Own.nil _ _) (Below.refl _ _)

set_option maxHeartbeats 1000000 in
theorem get_in (b off n cap k : Nat) (l : List Nat) (w : World) (hB : Bys w (some ⟨b, off, none⟩) n l) (hk : k < n) (hcap : n ≤ cap) (hm : cap ≤ maxLen) :
    Calls Try.prog 20 #[.slice (some ⟨b, off, none⟩) n cap, .int .i64 k] w (GetPost w l k) := by
  have hlen := hB.1
  have hcut := hB.cut k (by omega)
  obtain ⟨b', off', e, hc⟩ := hB.2.2 (by omega)
  injection e with e
  injection e with e1 e2 _
  subst e1 e2
  have hck := hc k hk
  have HL := Lib.hid hlen
  have HB := Lib.hid hB
  have HC := Lib.hid hcut
  have HM := Lib.hid hm
  clear hc hB hcut hlen
  unfold maxLen at hm
  have d0 : decide ((k : Int) < 0) = false := by simp
  have d1 : ((k : Int) == (n : Int)) = false := by rw [beq_eq_false_iff_ne]; omega
  have hge0 := getS_empty l k (by rw [HL.out]; omega)
  have hge1 := getS_bad l k (by rw [HL.out]; omega)
  have hge2 := fun x => getS_some l x k (by rw [HL.out]; omega)
  generalize hy : l.getD k 0 = y at *
  have G0 := Lib.hid hge0
  have G1 := Lib.hid hge1
  have G2 := Lib.hid hge2
  clear hge0 hge1 hge2 hy
  by_cases hy0 : y = 0
  · subst hy0
    go_enter Try.func20, Try.ntmps20
    go_wp2
    go_ret3
    exact getPost_mk (G0.out (.inr trivial)) rfl rfl rfl (Own.nil _ _) (Below.refl _ _)
  · have d2 : ((y : Int) == 0) = false := by rw [beq_eq_false_iff_ne]; omega
    go_enter Try.func20, Try.ntmps20
    go_wp2_with fail
    with_reducible refine (open_any _ _ _ _ _ HC.out (by omega) (by have := HM.out; omega)).mono ?_
    rintro e w2 ⟨hb2, ⟨ho, v, rfl⟩ | ⟨x, A, c, ho, rfl, hBx, hc1, hc2, hc3⟩⟩
    · have HO := Lib.hid ho
      clear ho
      go_wp2
      go_ret3
      exact getPost_mk (G1.out hy0 HO.out) rfl rfl rfl (Own.nil _ _) hb2
    · have HO := Lib.hid ho
      have HBX := Lib.hid hBx
      have hx := (Frm.opn_some ho).1
      have hfit : k + (8 + x.length) ≤ n := by
        obtain ⟨_, t, ht⟩ := Frm.opn_some ho
        have h1 := congrArg List.length ht
        rw [List.length_drop, HL.out, List.length_append, Frm.frm_len] at h1
        omega
      clear ho hBx
      go_wp2_with fail
      with_reducible refine (clone_any _ _ _ _ _ HBX.out hc3 (by omega)).mono ?_
      rintro e w3 ⟨v, rfl, hO3, hb3⟩
      have HO3 := Lib.hid hO3
      clear hO3
      go_wp2_with fail
      with_reducible refine (size_yes _ _ hx).mono ?_
      rintro e w4 ⟨rfl, rfl⟩
      go_wp2
      go_ret3
      exact getPost_mk (G2.out x hy0 HO.out) rfl (by omega) rfl (HO3.out.mono hb2.size) (hb2.trans (hb3.mono hb2.size))

theorem get_any (a : Option Addr) (n cap : Nat) (l : List Nat) (i : Int) (w : World) (hB : Bys w a n l) (hcap : n ≤ cap) (hm : cap ≤ maxLen) :
    Calls Try.prog 20 #[.slice a n cap, .int .i64 i] w (GetPost w l i) := by
  by_cases h1 : i < 0 ∨ (n : Int) < i
  · exact get_arg a n cap l i w hB (by omega) h1
  · obtain ⟨k, rfl⟩ := Int.eq_ofNat_of_zero_le (show 0 ≤ i by omega)
    by_cases h2 : k = n
    · subst h2
      exact get_end a k cap l w hB
    · obtain ⟨b, off, rfl, _⟩ := hB.2.2 (by omega)
      exact get_in b off n cap k l w hB (by omega) hcap hm

end Go.Proofs.Ytaehagejmeimiaa
