/-
  The contract of known.
-/
import Derived.Test.YtnajombhlmbopaaStW
namespace Go.Proofs.Ytnajombhlmbopaa
open Go.Proofs Go.RowKit
set_option maxRecDepth 100000
set_option linter.unusedVariables false
set_option linter.unusedSimpArgs false

def kl0 : List Int := [2, 0, 3]
def kq0 : Ss := ⟨kl0, []⟩
def kq1 : Ss := bookS kq0 1 0 2
def kq2 : Ss := bookS kq1 2 0 2
def kq3 : Ss := cancS kq2 1
def kq4 : Ss := bookS kq3 3 0 2
theorem kn_new : newOf kl0 = some kl0 := by decide +kernel
theorem kn_a : bookD kq0 1 0 2 = some 0 := by decide +kernel
theorem kn_b : bookD kq1 2 0 2 = some 2 := by decide +kernel
theorem kn_c : bookD kq2 3 0 2 = none := by decide +kernel
theorem kn_d : (findH kq2.H 1).isSome = true := by decide +kernel
theorem kn_e : bookD kq3 3 0 2 = some 0 := by decide +kernel
theorem kn_f : roomI kq4.F 2 = 1 := by decide +kernel
theorem kn_h : kq0.H.length ≤ 1000 ∧ kq1.H.length ≤ 1000 ∧ kq2.H.length ≤ 1000 ∧ kq3.H.length ≤ 1000 ∧ kq4.H.length ≤ 1000 := by decide +kernel
theorem iin_one (w : World) (fr : Nat × Nat) : Iin (w.alloc (.cells #[.int .i64 2, .int .i64 0, .int .i64 3] 3 fr)) (some ⟨w.heap.size, 0, none⟩) 3 kl0 := by
  refine ⟨rfl, fun _ => ⟨w.heap.size, 0, rfl, by simp, fun i hi => ?_⟩⟩
  have hc := fun j => cell_of_row (w.alloc (.cells #[.int .i64 2, .int .i64 0, .int .i64 3] 3 fr)) w.heap.size j _ 3 fr (heap_alloc_new w _)
  have hi2 : i < 3 := hi
  rcases (by omega : i = 0 ∨ i = 1 ∨ i = 2) with rfl | rfl | rfl
  · exact hc 0
  · exact hc 1
  · exact hc 2

set_option maxHeartbeats 4000000 in
theorem known_any (w : World) : Calls Try.prog 9 #[] w fun e w' => e = .returned (.bool true) ∧ Below w.heap.size w w' := by
  go_enter Try.func9, Try.ntmps9
  go_wp2_with fail
  with_reducible refine (sw_new (w0 := w) (below1 w _) _ 3 3 kl0 (iin_one w (0, 0)) (by decide)).mono ?_
  rintro e w1 ⟨hb, ⟨h1, -⟩ | ⟨b, h1, rfl, hs, -⟩⟩
  · rw [kn_new] at h1; cases h1
  · change SW w w1 kl0 b kq0 at hs
    have S_1 := Lib.hid hs
    clear hs hb
    have C1 : Hid (Calls Try.prog 23 #[.pointer (some ⟨b.s, 0, none⟩), .int .u32 1, .int .i64 0, .int .i64 2] w1 (SwPost2 w w1 kl0 b (bookS kq0 1 0 2) (dayI (bookD kq0 1 0 2)) (verd (bookD kq0 1 0 2).isSome))) := Lib.hid (sw_book S_1.out 1 0 2 (by decide) (by unfold in64; omega) (by unfold in64; omega) kn_h.1)
    go_wp2_with fail
    with_reducible refine (C1.out).mono ?_
    rintro e w2 ⟨he, hs, hf⟩
    rw [kn_a] at he
    change e = .returned (.tuple #[.int .i64 0, .int .i64 1]) at he
    subst he
    change SW w w2 kl0 b kq1 at hs
    have S_2 := Lib.hid hs
    clear hs hf
    have C2 : Hid (Calls Try.prog 23 #[.pointer (some ⟨b.s, 0, none⟩), .int .u32 2, .int .i64 0, .int .i64 2] w2 (SwPost2 w w2 kl0 b (bookS kq1 2 0 2) (dayI (bookD kq1 2 0 2)) (verd (bookD kq1 2 0 2).isSome))) := Lib.hid (sw_book S_2.out 2 0 2 (by decide) (by unfold in64; omega) (by unfold in64; omega) kn_h.2.1)
    go_wp2_with fail
    with_reducible refine (C2.out).mono ?_
    rintro e w3 ⟨he, hs, hf⟩
    rw [kn_b] at he
    change e = .returned (.tuple #[.int .i64 2, .int .i64 1]) at he
    subst he
    change SW w w3 kl0 b kq2 at hs
    have S_3 := Lib.hid hs
    clear hs hf
    have C3 : Hid (Calls Try.prog 23 #[.pointer (some ⟨b.s, 0, none⟩), .int .u32 3, .int .i64 0, .int .i64 2] w3 (SwPost2 w w3 kl0 b (bookS kq2 3 0 2) (dayI (bookD kq2 3 0 2)) (verd (bookD kq2 3 0 2).isSome))) := Lib.hid (sw_book S_3.out 3 0 2 (by decide) (by unfold in64; omega) (by unfold in64; omega) kn_h.2.2.1)
    go_wp2_with fail
    with_reducible refine (C3.out).mono ?_
    rintro e w4 ⟨he, hs, hf⟩
    rw [kn_c] at he
    change e = .returned (.tuple #[.int .i64 0, .int .i64 2]) at he
    subst he
    rw [bookS_no kn_c] at hs
    have S_4 := Lib.hid hs
    clear hs hf
    have C4 : Hid (Calls Try.prog 22 #[.pointer (some ⟨b.s, 0, none⟩), .int .u32 1] w4 (SwPost w w4 kl0 b (cancS kq2 1) (verd (findH kq2.H 1).isSome))) := Lib.hid (sw_canc S_4.out 1 (by decide))
    go_wp2_with fail
    with_reducible refine (C4.out).mono ?_
    rintro e w5 ⟨he, hs, hf⟩
    rw [kn_d] at he
    change e = .returned (.int .i64 1) at he
    subst he
    change SW w w5 kl0 b kq3 at hs
    have S_5 := Lib.hid hs
    clear hs hf
    have C5 : Hid (Calls Try.prog 23 #[.pointer (some ⟨b.s, 0, none⟩), .int .u32 3, .int .i64 0, .int .i64 2] w5 (SwPost2 w w5 kl0 b (bookS kq3 3 0 2) (dayI (bookD kq3 3 0 2)) (verd (bookD kq3 3 0 2).isSome))) := Lib.hid (sw_book S_5.out 3 0 2 (by decide) (by unfold in64; omega) (by unfold in64; omega) kn_h.2.2.2.1)
    go_wp2_with fail
    with_reducible refine (C5.out).mono ?_
    rintro e w6 ⟨he, hs, hf⟩
    rw [kn_e] at he
    change e = .returned (.tuple #[.int .i64 0, .int .i64 1]) at he
    subst he
    change SW w w6 kl0 b kq4 at hs
    have S_6 := Lib.hid hs
    clear hs hf
    have C6 : Hid (Calls Try.prog 18 #[.pointer (some ⟨b.s, 0, none⟩), .int .i64 2] w6 (SwN1 w w6 kl0 b kq4 (roomI kq4.F 2))) := Lib.hid (sw_room S_6.out 2)
    go_wp2_with fail
    with_reducible refine (C6.out).mono ?_
    rintro e w7 ⟨he, hs, hf⟩
    rw [kn_f] at he
    subst he
    have S_7 := Lib.hid hs
    clear hs hf
    go_wp2
    go_ret
    exact ⟨rfl, S_7.out.bel⟩

end Go.Proofs.Ytnajombhlmbopaa
