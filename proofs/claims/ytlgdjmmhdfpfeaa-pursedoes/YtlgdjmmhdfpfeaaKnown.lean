/-
  The contract of known.
-/
import Derived.Test.YtlgdjmmhdfpfeaaStW
namespace Go.Proofs.Ytlgdjmmhdfpfeaa
open Go.Proofs Go.RowKit
set_option maxRecDepth 100000
set_option linter.unusedVariables false
set_option linter.unusedSimpArgs false

theorem run_eql46 (w : World) : (binOp .eql 46 (.agg #[encStr [97, 110, 110], .int .i64 10, .int .i64 0]) (.agg #[encStr [97, 110, 110], .int .i64 10, .int .i64 0])).run Try.prog w = .ok (.bool true) w := by
  have u9 := Try.underlying9
  have a9 := Try.isAgg9
  have z9 := Try.sizeOf9
  have u3 := Try.underlying3
  have a3 := Try.isAgg3
  have z3 := Try.sizeOf3
  have hS : Try.prog.underlying 46 = some (.struct (Try.prog.fieldsOf 46)) := by kernel_rfl
  have hp : Try.prog.stoodInHeld 46 = false := by kernel_rfl
  rw [run_eql_struct, show (10000 : Nat) = 9999 + 1 from rfl, run_equalIn_agg w 9999 46 _ _ hS hp]
  simp only [Program.fieldsOf, Try.underlying46]
  go_simp

def kl0 : List Kd := [⟨[97, 110, 110], 10, 0⟩]
def kq0 : Ss := ⟨[⟨[97, 110, 110], 10, 0⟩], []⟩
def kq1 : Ss := authS kq0 1 [97, 110, 110] 7
def kq2 : Ss := movS kq1 1 0
def kq3 : Ss := movS kq2 1 2
theorem kn_new : newOf kl0 = some kq0.K := by kernel_rfl
theorem kn_a : authV kq0 1 [97, 110, 110] 7 = true := by decide +kernel
theorem kn_b : authV kq1 2 [97, 110, 110] 4 = false := by decide +kernel
theorem kn_c : movV kq1 1 0 = true := by decide +kernel
theorem kn_d : movV kq2 1 2 = true := by decide +kernel
theorem kn_f : movV kq3 1 2 = false := by decide +kernel
theorem kn_g : authV kq3 1 [97, 110, 110] 1 = false := by decide +kernel
theorem kn_l : kq2.K = [⟨[97, 110, 110], 3, 0⟩] := by kernel_rfl
theorem kn_m : kq3.K = [⟨[97, 110, 110], 10, 0⟩] := by kernel_rfl
theorem kn_t : tot kq2.H 2 = 7 := by decide +kernel
theorem kn_u : tot kq3.H 2 = 0 := by decide +kernel
theorem kn_h : kq0.H.length ≤ 1000 ∧ kq1.H.length ≤ 1000 ∧ kq2.H.length ≤ 1000 ∧ kq3.H.length ≤ 1000 := by decide +kernel
theorem gin_one (w : World) (fr : Nat × Nat) : Gin (w.alloc (.cells #[encStr [97, 110, 110], .int .i64 10, .int .i64 0] 46 fr)) (some ⟨w.heap.size, 0, none⟩) 1 kl0 := by
  refine ⟨rfl, fun _ => ⟨w.heap.size, 0, rfl, by simp, fun i hi => ?_⟩⟩
  have hc := fun j => cell_of_row (w.alloc (.cells #[encStr [97, 110, 110], .int .i64 10, .int .i64 0] 46 fr)) w.heap.size j _ 46 fr (heap_alloc_new w _)
  have hi2 : i < 1 := hi
  obtain rfl : i = 0 := by omega
  exact ⟨hc 0, hc 1, hc 2⟩

set_option maxHeartbeats 4000000 in
theorem known_any (w : World) : Calls Try.prog 10 #[] w fun e w' => e = .returned (.bool true) ∧ Below w.heap.size w w' := by
  go_enter Try.func10, Try.ntmps10
  go_wp2_with fail
  with_reducible refine (sw_new (w0 := w) (below1 w _) _ 1 1 kl0 (gin_one w (0, 0)) (by decide) (by decide)).mono ?_
  rintro e w1 ⟨hb, ⟨h1, -⟩ | ⟨K, b, h1, rfl, hs, -⟩⟩
  · rw [kn_new] at h1; cases h1
  · rw [kn_new] at h1
    injection h1 with h1
    subst h1
    change SW w w1 b kq0 at hs
    have S_1 := Lib.hid hs
    clear hs hb
    have C1 : Hid (Calls Try.prog 24 #[.pointer (some ⟨b.s, 0, none⟩), .int .u32 1, .string ⟨#[97, 110, 110]⟩, .int .i64 7] w1 (SwPost w w1 b (authS kq0 1 [97, 110, 110] 7) (verd (authV kq0 1 [97, 110, 110] 7)))) := Lib.hid (sw_auth S_1.out 1 [97, 110, 110] 7 (by decide) (by decide) (by unfold in64; omega) kn_h.1)
    go_wp2_with fail
    with_reducible refine (C1.out).mono ?_
    rintro e w2 ⟨he, hs, hf⟩
    rw [kn_a] at he
    subst he
    change SW w w2 b kq1 at hs
    have S_2 := Lib.hid hs
    clear hs hf
    have C2 : Hid (Calls Try.prog 24 #[.pointer (some ⟨b.s, 0, none⟩), .int .u32 2, .string ⟨#[97, 110, 110]⟩, .int .i64 4] w2 (SwPost w w2 b (authS kq1 2 [97, 110, 110] 4) (verd (authV kq1 2 [97, 110, 110] 4)))) := Lib.hid (sw_auth S_2.out 2 [97, 110, 110] 4 (by decide) (by decide) (by unfold in64; omega) kn_h.2.1)
    go_wp2_with fail
    with_reducible refine (C2.out).mono ?_
    rintro e w3 ⟨he, hs, hf⟩
    rw [kn_b] at he
    subst he
    rw [authS_no kn_b] at hs
    have S_3 := Lib.hid hs
    clear hs hf
    have C3 : Hid (Calls Try.prog 26 #[.pointer (some ⟨b.s, 0, none⟩), .int .u32 1] w3 (SwPost w w3 b (movS kq1 1 0) (verd (movV kq1 1 0)))) := Lib.hid (sw_capture S_3.out 1 (by decide) kn_h.2.1)
    go_wp2_with fail
    with_reducible refine (C3.out).mono ?_
    rintro e w4 ⟨he, hs, hf⟩
    rw [kn_c] at he
    subst he
    change SW w w4 b kq2 at hs
    have S_4 := Lib.hid hs
    clear hs hf
    go_wp2_with fail
    with_reducible refine (sw_goods S_4.out).mono ?_
    rintro e w5 ⟨RLv, rfl, hr, hs, hf⟩
    have S_5 := Lib.hid hs
    have RL_5 := Lib.hid hr
    clear hs hf hr
    go_wp2_with fail
    with_reducible refine (sw_taken S_5.out kn_h.2.2.1).mono ?_
    rintro e w6 ⟨he, hs, hf⟩
    rw [kn_t] at he
    subst he
    have S_6 := Lib.hid hs
    have RL_6 := Lib.hid (RL_5.out.below hf)
    clear hs hf
    have C4 : Hid (Calls Try.prog 25 #[.pointer (some ⟨b.s, 0, none⟩), .int .u32 1] w6 (SwPost w w6 b (movS kq2 1 2) (verd (movV kq2 1 2)))) := Lib.hid (sw_refund S_6.out 1 (by decide) kn_h.2.2.1)
    go_wp2_with fail
    with_reducible refine (C4.out).mono ?_
    rintro e w7 ⟨he, hs, hf⟩
    rw [kn_d] at he
    subst he
    change SW w w7 b kq3 at hs
    have S_7 := Lib.hid hs
    have RL_7 := Lib.hid (RL_6.out.frm hf)
    clear hs hf
    have C5 : Hid (Calls Try.prog 25 #[.pointer (some ⟨b.s, 0, none⟩), .int .u32 1] w7 (SwPost w w7 b (movS kq3 1 2) (verd (movV kq3 1 2)))) := Lib.hid (sw_refund S_7.out 1 (by decide) kn_h.2.2.2)
    go_wp2_with fail
    with_reducible refine (C5.out).mono ?_
    rintro e w8 ⟨he, hs, hf⟩
    rw [kn_f] at he
    subst he
    rw [movS_no kn_f] at hs
    have S_8 := Lib.hid hs
    have RL_8 := Lib.hid (RL_7.out.frm hf)
    clear hs hf
    have C6 : Hid (Calls Try.prog 24 #[.pointer (some ⟨b.s, 0, none⟩), .int .u32 1, .string ⟨#[97, 110, 110]⟩, .int .i64 1] w8 (SwPost w w8 b (authS kq3 1 [97, 110, 110] 1) (verd (authV kq3 1 [97, 110, 110] 1)))) := Lib.hid (sw_auth S_8.out 1 [97, 110, 110] 1 (by decide) (by decide) (by unfold in64; omega) kn_h.2.2.2)
    go_wp2_with fail
    with_reducible refine (C6.out).mono ?_
    rintro e w9 ⟨he, hs, hf⟩
    rw [kn_g] at he
    subst he
    rw [authS_no kn_g] at hs
    have S_9 := Lib.hid hs
    have RL_9 := Lib.hid (RL_8.out.frm hf)
    clear hs hf
    go_wp2_with fail
    with_reducible refine (sw_goods S_9.out).mono ?_
    rintro e w10 ⟨RMv, rfl, hr, hs, hf⟩
    have S_10 := Lib.hid hs
    have RL_10 := Lib.hid (RL_9.out.below hf)
    have RM_10 := Lib.hid hr
    clear hs hf hr
    have q1 := RL_10.out
    have q2 := RM_10.out
    rw [kn_l] at q1
    rw [kn_m] at q2
    obtain ⟨A1, c1, rfl, ⟨-, g1⟩, -⟩ := q1.gin
    obtain ⟨A2, c2, rfl, ⟨-, g2⟩, -⟩ := q2.gin
    obtain ⟨b1, o1, rfl, -, g1⟩ := g1 (by decide)
    obtain ⟨b2, o2, rfl, -, g2⟩ := g2 (by decide)
    obtain ⟨-, x1, -⟩ := g1 0 (by decide)
    obtain ⟨y0, y1, y2⟩ := g2 0 (by decide)
    clear g1 g2 q1 q2
    dsimp only [List.length_cons, List.length_nil, List.getElem_cons_zero] at x1 y0 y1 y2 ⊢
    rw [show o1 + 0 * 3 = o1 from by omega] at x1
    rw [show o2 + 0 * 3 = o2 from by omega] at y0 y1 y2
    have he := fun W => run_eql46 W
    have hgd := guard46
    go_wp2_with fail
    with_reducible refine (sw_taken S_10.out kn_h.2.2.2).mono ?_
    rintro e w11 ⟨he, hs, hf⟩
    rw [kn_u] at he
    subst he
    have S_11 := Lib.hid hs
    have RL_11 := Lib.hid (RL_10.out.below hf)
    have RM_11 := Lib.hid (RM_10.out.below hf)
    clear hs hf
    go_wp2
    go_ret
    exact ⟨rfl, S_11.out.bel⟩

end Go.Proofs.Ytlgdjmmhdfpfeaa
