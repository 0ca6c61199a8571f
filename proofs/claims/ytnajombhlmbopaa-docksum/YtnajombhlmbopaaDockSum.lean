/-
  Of each day what is booked and what there is room for are together the room at first; none is below 0; with Refused nothing changes, for all capacities and calls that can be.
-/
import Derived.Test.YtnajombhlmbopaaSumWalk
import Derived.WalkKit
import Derived.ProofKit
import Derived.OpenShut
import Derived.ShutString
import Derived.ChangeOld
import Derived.Below
import Derived.ChangeMaps5
namespace Go.Proofs.Ytnajombhlmbopaa.dockSum
open Go.ChangeShapes Go.WideShapes Go.ChangeAt Go.RowKit
open Go.ChangeMaps (open_string shut_string)
set_option linter.unusedVariables false

theorem own : ownKnob Try.prog.godebug = none := by kernel_rfl
theorem laidOut : laidOutB Try.prog = true := by kernel_rfl

set_option maxRecDepth 100000 in
theorem lifted (os : Os) (started : os.Started) (H : Type) (enc : TypeId × Value → H) :
    ReturnsInHanded {} Try.checked os 4 .any (Rows.dockSumSpec.pre6 enc Try.prog Try.f4 Rows.dockSumRow.domain false) (Rows.dockSumSpec.post enc Try.prog Try.f4 false true false false) := by
  refine returnsInHanded_of_change (C := Try.checked) own started (by kernel_rfl) Try.func4
    (ChangeSpec.witness6 (enc := enc) (C := Try.checked) false ⟨#[], #[.slice none 0 0, .slice none 0 0], []⟩ 8 (by kernel_rfl) (by kernel_rfl) (by kernel_rfl) (by kernel_rfl)) ?_
  intro W base args ds gs before hval0 hW hcnd _
  have hval : ∀ (j : Nat) t v, Try.f4.params[j]? = some t → args[j]? = some v → Value.okWide Try.prog W .any base t v := hval0
  have hW' := hW
  obtain ⟨p, q, hA0, hV, rfl, hfz, hnd⟩ := hW
  have hA : DataW.TrodAll enc Try.prog W 0 (fun _ => true) true Try.f4.params.toList args.toList ds p := hA0
  rw [Try.params4] at hA hval
  obtain ⟨v0, vs0, d0, ds0, p0, q0, hargs, rfl, rfl, h0, r0⟩ := trodAll_cons hA
  obtain ⟨v1, vs1, d1, ds1, p1, q1, rfl, rfl, rfl, h1, r1⟩ := trodAll_cons r0
  obtain ⟨rfl, rfl, rfl⟩ := trodAll_nil r1
  obtain rfl : args = #[v0, v1] := by cases args; simp_all
  obtain ⟨rfl, rfl⟩ := trodVars_none hV
  obtain ⟨a0, len0, cap0, rfl⟩ := okWide_slice Try.underlying22 (hval 0 22 v0 rfl rfl)
  have k0 := h0
  have lt0 : ∀ x ∈ p0, x.block < W.heap.size := by obtain ⟨m, hm⟩ := k0; exact DataW.trod_lt m _ _ _ hm
  obtain ⟨l0, w0, nc0, cm0, wk0⟩ : ∃ l, Iin W a0 len0 l ∧ len0 ≤ cap0 ∧ cap0 ≤ maxLen ∧ IntsOk l := by
    obtain ⟨fuel, hf⟩ := h0
    obtain ⟨a, len, cap, l, hc, hI, h2, h3, h4⟩ := in_ints hf
    injection hc with q1 q2 q3
    subst q1 q2 q3
    exact ⟨l, hI, h2, h3, h4⟩
  obtain ⟨a1, len1, cap1, rfl⟩ := okWide_slice Try.underlying23 (hval 1 23 v1 rfl rfl)
  have k1 := h1
  have lt1 : ∀ x ∈ p1, x.block < W.heap.size := by obtain ⟨m, hm⟩ := k1; exact DataW.trod_lt m _ _ _ hm
  obtain ⟨l1, w1, nc1, cm1, wk1⟩ : ∃ l, Ain W a1 len1 l ∧ len1 ≤ cap1 ∧ cap1 ≤ maxLen ∧ ActsOk l := by
    obtain ⟨fuel, hf⟩ := h1
    obtain ⟨a, len, cap, l, hc, hI, h2, h3, h4⟩ := in_acts hf
    injection hc with q1 q2 q3
    subst q1 q2 q3
    exact ⟨l, hI, h2, h3, h4⟩
  clear hA0 hval0
  refine (dockSum_walk a0 len0 cap0 l0 a1 len1 cap1 l1 W w0 (Nat.le_trans nc0 cm0) wk0 w1 (Nat.le_trans nc1 cm1) wk1 known_any).mono fun e W' ⟨he, bel⟩ => ?_
  subst he
  exact ⟨_, rfl, _, _, _, [], _, [], hW', trodAll_mk1 (shut_bool Try.underlying4 _), (trodAll_cons_mk (Below.trod laidOut (by kernel_rfl) (of_decide_eq_true (by kernel_rfl)) k0 bel lt0) (trodAll_cons_mk (Below.trod laidOut (by kernel_rfl) (of_decide_eq_true (by kernel_rfl)) k1 bel lt1) trodAll_mk0)), rfl, bel.frame _, fun h => by cases h⟩

theorem over : Rows.dockSumRow.holds Try.pinned (OpenSpec.ofChange Rows.dockSumSpec) :=
  OpenClaim.holds_of_wide 4 Try.f4 rfl rfl rfl rfl rfl rfl rfl ⟨rfl, rfl, rfl, rfl, rfl⟩ rfl rfl rfl rfl rfl (by kernel_rfl) Try.func4 (by kernel_rfl)
    (of_decide_eq_true (by kernel_rfl)) (by unfold Func.isWrapper; first | (rw [if_pos (by decide +kernel)]; kernel_rfl) | (rw [if_neg (by decide +kernel)]; exact ⟨rfl, rfl⟩))
    (fun os started H enc _ => lifted os started H enc)

end Go.Proofs.Ytnajombhlmbopaa.dockSum
namespace Go.Proofs.Ytnajombhlmbopaa

/-- The statement. -/
theorem dockSum_holds : Rows.DockSumSaid := dockSum.over
#print axioms dockSum_holds

end Go.Proofs.Ytnajombhlmbopaa
