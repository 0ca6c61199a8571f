/-
  The contract of known.
-/
import Derived.Test.YtimoobhnhldgbaaStW
namespace Go.Proofs.Ytimoobhnhldgbaa
open Go.Proofs Go.RowKit
set_option maxRecDepth 100000
set_option linter.unusedVariables false
set_option linter.unusedSimpArgs false

theorem run_eql46 (n : List UInt8) (f : Int) (w : World) : (binOp .eql 46 (.agg #[encStr n, .int .i64 f]) (.agg #[encStr n, .int .i64 f])).run Try.prog w = .ok (.bool true) w := by
  have u9 := Try.underlying9
  have a9 := Try.isAgg9
  have z9 := Try.sizeOf9
  have u3 := Try.underlying3
  have a3 := Try.isAgg3
  have z3 := Try.sizeOf3
  have hS : Try.prog.underlying 46 = some (.struct (Try.prog.fieldsOf 46)) := by kernel_rfl
  have hp : Try.prog.stoodInHeld 46 = false := by kernel_rfl
  rw [run_eql_struct, show (10000 : Nat) = 9999 + 1 from rfl, run_equalIn_agg w 9999 46 _ _ hS hp]
  simp only [Program.fieldsOf, Try.underlying46]
  go_simp

def kl0 : List Gd := [⟨[98], 1⟩, ⟨[97], 5⟩]
def kq0 : Ss := ⟨[⟨[97], 5, 0⟩, ⟨[98], 1, 0⟩], []⟩
def kq1 : Ss := holdS kq0 7 [97] 3
def kq2 : Ss := endS kq1 7 false
def kq3 : Ss := holdS kq2 8 [97] 5
def kq4 : Ss := endS kq3 8 true
theorem kn_new : newOf kl0 = some kq0.K := by kernel_rfl
theorem kn_a : holdV kq0 7 [97] 3 = true := by decide +kernel
theorem kn_b : holdV kq1 8 [97] 3 = false := by decide +kernel
theorem kn_c : holdV kq1 7 [98] 1 = false := by decide +kernel
theorem kn_d : endV kq1 7 = true := by decide +kernel
theorem kn_f : holdV kq2 8 [97] 5 = true := by decide +kernel
theorem kn_g : endV kq3 8 = true := by decide +kernel
theorem kn_l : goodsL kq2.K = [⟨[97], 5⟩, ⟨[98], 1⟩] := by kernel_rfl
theorem kn_m : goodsL kq4.K = [⟨[97], 0⟩, ⟨[98], 1⟩] := by kernel_rfl
theorem kn_n : goneN kq4.K [97] = 5 := by decide +kernel
theorem kn_h : kq0.H.length ≤ 1000 ∧ kq1.H.length ≤ 1000 ∧ kq2.H.length ≤ 1000 ∧ kq3.H.length ≤ 1000 := by decide +kernel
theorem gin_two (w : World) (fr : Nat × Nat) : Gin (w.alloc (.cells #[encStr [98], .int .i64 1, encStr [97], .int .i64 5] 46 fr)) (some ⟨w.heap.size, 0, none⟩) 2 kl0 := by
  refine ⟨rfl, fun _ => ⟨w.heap.size, 0, rfl, by simp, fun i hi => ?_⟩⟩
  have hc := fun j => cell_of_row (w.alloc (.cells #[encStr [98], .int .i64 1, encStr [97], .int .i64 5] 46 fr)) w.heap.size j _ 46 fr (heap_alloc_new w _)
  have hi2 : i < 2 := hi
  rcases (show i = 0 ∨ i = 1 by omega) with rfl | rfl
  · exact ⟨hc 0, hc 1⟩
  · exact ⟨hc 2, hc 3⟩

set_option maxHeartbeats 4000000 in
theorem known_any (w : World) : Calls Try.prog 10 #[] w fun e w' => e = .returned (.bool true) ∧ Below w.heap.size w w' := by
  go_enter Try.func10, Try.ntmps10
  go_wp2_with fail
  with_reducible refine (sw_new (w0 := w) (below1 w _) _ 2 2 kl0 (gin_two w (0, 0)) (by decide) (by decide)).mono ?_
  rintro e w1 ⟨hb, ⟨h1, -⟩ | ⟨K, b, h1, rfl, hs, -⟩⟩
  · rw [kn_new] at h1; cases h1
  · rw [kn_new] at h1
    injection h1 with h1
    subst h1
    change SW w w1 b kq0 at hs
    have S_1 := Lib.hid hs
    clear hs hb
    have C1 : Hid (Calls Try.prog 26 #[.pointer (some ⟨b.s, 0, none⟩), .int .u32 7, .string ⟨#[97]⟩, .int .i64 3] w1 (SwPost w w1 b (holdS kq0 7 [97] 3) (verd (holdV kq0 7 [97] 3)))) := Lib.hid (sw_hold S_1.out 7 [97] 3 (by decide) (by decide) (by unfold in64; omega) kn_h.1)
    go_wp2_with fail
    with_reducible refine (C1.out).mono ?_
    rintro e w2 ⟨he, hs, hf⟩
    rw [kn_a] at he
    subst he
    change SW w w2 b kq1 at hs
    have S_2 := Lib.hid hs
    clear hs hf
    have C2 : Hid (Calls Try.prog 26 #[.pointer (some ⟨b.s, 0, none⟩), .int .u32 8, .string ⟨#[97]⟩, .int .i64 3] w2 (SwPost w w2 b (holdS kq1 8 [97] 3) (verd (holdV kq1 8 [97] 3)))) := Lib.hid (sw_hold S_2.out 8 [97] 3 (by decide) (by decide) (by unfold in64; omega) kn_h.2.1)
    go_wp2_with fail
    with_reducible refine (C2.out).mono ?_
    rintro e w3 ⟨he, hs, hf⟩
    rw [kn_b] at he
    subst he
    rw [holdS_no kn_b] at hs
    have S_3 := Lib.hid hs
    clear hs hf
    have C3 : Hid (Calls Try.prog 26 #[.pointer (some ⟨b.s, 0, none⟩), .int .u32 7, .string ⟨#[98]⟩, .int .i64 1] w3 (SwPost w w3 b (holdS kq1 7 [98] 1) (verd (holdV kq1 7 [98] 1)))) := Lib.hid (sw_hold S_3.out 7 [98] 1 (by decide) (by decide) (by unfold in64; omega) kn_h.2.1)
    go_wp2_with fail
    with_reducible refine (C3.out).mono ?_
    rintro e w4 ⟨he, hs, hf⟩
    rw [kn_c] at he
    subst he
    rw [holdS_no kn_c] at hs
    have S_4 := Lib.hid hs
    clear hs hf
    have C4 : Hid (Calls Try.prog 24 #[.pointer (some ⟨b.s, 0, none⟩), .int .u32 7] w4 (SwPost w w4 b (endS kq1 7 false) (verd (endV kq1 7)))) := Lib.hid (sw_free S_4.out 7 (by decide))
    go_wp2_with fail
    with_reducible refine (C4.out).mono ?_
    rintro e w5 ⟨he, hs, hf⟩
    rw [kn_d] at he
    subst he
    change SW w w5 b kq2 at hs
    have S_5 := Lib.hid hs
    clear hs hf
    go_wp2_with fail
    with_reducible refine (sw_goods S_5.out).mono ?_
    rintro e w6 ⟨v6, rfl, hr, hs, hf⟩
    have S_6 := Lib.hid hs
    have RG6_6 := Lib.hid hr
    clear hs hf hr
    have C6 : Hid (Calls Try.prog 26 #[.pointer (some ⟨b.s, 0, none⟩), .int .u32 8, .string ⟨#[97]⟩, .int .i64 5] w6 (SwPost w w6 b (holdS kq2 8 [97] 5) (verd (holdV kq2 8 [97] 5)))) := Lib.hid (sw_hold S_6.out 8 [97] 5 (by decide) (by decide) (by unfold in64; omega) kn_h.2.2.1)
    go_wp2_with fail
    with_reducible refine (C6.out).mono ?_
    rintro e w7 ⟨he, hs, hf⟩
    rw [kn_f] at he
    subst he
    change SW w w7 b kq3 at hs
    have S_7 := Lib.hid hs
    have RG6_7 := Lib.hid (RG6_6.out.frm hf)
    clear hs hf
    have C7 : Hid (Calls Try.prog 25 #[.pointer (some ⟨b.s, 0, none⟩), .int .u32 8] w7 (SwPost w w7 b (endS kq3 8 true) (verd (endV kq3 8)))) := Lib.hid (sw_ship S_7.out 8 (by decide))
    go_wp2_with fail
    with_reducible refine (C7.out).mono ?_
    rintro e w8 ⟨he, hs, hf⟩
    rw [kn_g] at he
    subst he
    change SW w w8 b kq4 at hs
    have S_8 := Lib.hid hs
    have RG6_8 := Lib.hid (RG6_7.out.frm hf)
    clear hs hf
    go_wp2_with fail
    with_reducible refine (sw_goods S_8.out).mono ?_
    rintro e w9 ⟨v9, rfl, hr, hs, hf⟩
    have S_9 := Lib.hid hs
    have RG6_9 := Lib.hid (RG6_8.out.below hf)
    have RG9_9 := Lib.hid hr
    clear hs hf hr
    have q1 := RG6_9.out
    have q2 := RG9_9.out
    rw [kn_l] at q1
    rw [kn_m] at q2
    obtain ⟨A1, c1, rfl, ⟨-, g1⟩, -⟩ := q1.gin
    obtain ⟨A2, c2, rfl, ⟨-, g2⟩, -⟩ := q2.gin
    obtain ⟨b1, o1, rfl, -, g1⟩ := g1 (by decide)
    obtain ⟨b2, o2, rfl, -, g2⟩ := g2 (by decide)
    obtain ⟨x0, x1⟩ := g1 0 (by decide)
    obtain ⟨-, y1⟩ := g2 0 (by decide)
    clear g1 g2 q1 q2
    dsimp only [List.length_cons, List.length_nil, List.getElem_cons_zero] at x0 x1 y1 ⊢
    rw [show o1 + 0 * 2 = o1 from by omega] at x0 x1
    rw [show o2 + 0 * 2 = o2 from by omega] at y1
    have he := fun W => run_eql46 [97] 5 W
    have hgd := guard46
    have CG : Hid (Calls Try.prog 22 #[.pointer (some ⟨b.s, 0, none⟩), .string ⟨#[97]⟩] w9 (fun e w' => e = .returned (.int .i64 (goneN kq4.K [97])) ∧ w9 = w')) := Lib.hid (sw_gone S_9.out [97] (by decide))
    go_wp2_with fail
    with_reducible refine (CG.out).mono ?_
    rintro e w10 ⟨he2, rfl⟩
    rw [kn_n] at he2
    subst he2
    go_wp2
    go_ret
    exact ⟨rfl, S_9.out.bel⟩

end Go.Proofs.Ytimoobhnhldgbaa
