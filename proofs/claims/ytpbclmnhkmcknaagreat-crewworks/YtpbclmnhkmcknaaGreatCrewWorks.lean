/-
  CrewWorks: for every work and all bytes the function answers true: a work has the bytes that the chapter says, or is refused; bytes are the work that it says, or none; what was written is read again. No condition.
-/
import Derived.WalkKit
import Derived.ProofKit
import Derived.OpenShut
import Derived.ShutString
import Derived.ChangeOld
import Derived.Below
import Derived.ChangeMaps5
import Derived.Test.YtpbclmnhkmcknaaGreatWorksQ0
namespace Go.Proofs.YtpbclmnhkmcknaaGreat.crewWorks
open Go.ChangeShapes Go.WideShapes Go.ChangeAt Go.RowKit
open Go.ChangeMaps (open_string shut_string)
set_option linter.unusedVariables false

theorem own : ownKnob Tryz.prog.godebug = none := by kernel_rfl
theorem laidOut : laidOutB Tryz.prog = true := by kernel_rfl

set_option maxRecDepth 100000 in
theorem lifted (os : Os) (started : os.Started) (H : Type) (enc : TypeId × Value → H) :
    ReturnsInHanded {} Tryz.checked os 3 .any (Rows.crewWorksSpec.pre6 enc Tryz.prog Tryz.f3 Rows.crewWorksRow.domain false) (Rows.crewWorksSpec.post enc Tryz.prog Tryz.f3 false true false false) := by
  refine returnsInHanded_of_change (C := Tryz.checked) own started (by kernel_rfl) Tryz.func3
    (ChangeSpec.witness6 (enc := enc) (C := Tryz.checked) false ⟨#[], #[.agg #[.int .i64 0, .int .i64 0, .slice none 0 0], .slice none 0 0], []⟩ 8 (by kernel_rfl) (by kernel_rfl) (by kernel_rfl) (by kernel_rfl)) ?_
  intro W base args ds gs before hval0 hW hcnd _
  have hval : ∀ (j : Nat) t v, Tryz.f3.params[j]? = some t → args[j]? = some v → Value.okWide Tryz.prog W .any base t v := hval0
  have hW' := hW
  obtain ⟨p, q, hA0, hV, rfl, hfz, hnd⟩ := hW
  have hA : DataW.TrodAll enc Tryz.prog W 0 (fun _ => true) true Tryz.f3.params.toList args.toList ds p := hA0
  rw [Tryz.params3] at hA hval
  obtain ⟨v0, vs0, d0, ds0, p0, q0, hargs, rfl, rfl, h0, r0⟩ := trodAll_cons hA
  obtain ⟨v1, vs1, d1, ds1, p1, q1, rfl, rfl, rfl, h1, r1⟩ := trodAll_cons r0
  obtain ⟨rfl, rfl, rfl⟩ := trodAll_nil r1
  obtain rfl : args = #[v0, v1] := by cases args; simp_all
  obtain ⟨rfl, rfl⟩ := trodVars_none hV
  have k0 := h0
  have lt0 : ∀ x ∈ p0, x.block < W.heap.size := by obtain ⟨m, hm⟩ := k0; exact DataW.trod_lt m _ _ _ hm
  have k1 := h1
  have lt1 : ∀ x ∈ p1, x.block < W.heap.size := by obtain ⟨m, hm⟩ := k1; exact DataW.trod_lt m _ _ _ hm
  obtain ⟨cs, rfl, _⟩ := okWide_struct Tryz.underlying24 (hval 0 24 v0 rfl rfl)
  obtain ⟨k, A, c, hcs, hK⟩ : ∃ (k : Wk) (A : Option Addr) (c : Nat), cs = #[.int .i64 k.t, .int .i64 k.n, .slice A k.x.length c] ∧ InBytes W A k.x.length c k.x := by
    obtain ⟨fuel, hf⟩ := h0
    obtain ⟨k, A, c, e, -, -, hK⟩ := in_work hf
    refine ⟨k, A, c, ?_, hK⟩
    apply Array.toList_inj.1
    simpa [Value.cells] using e
  subst hcs
  obtain ⟨a1, len1, cap1, rfl⟩ := okWide_slice Tryz.underlying22 (hval 1 22 v1 rfl rfl)
  obtain ⟨l, hl, hB⟩ : ∃ l : List Nat, len1 = l.length ∧ InBytes W a1 l.length cap1 l := by
    obtain ⟨fuel, hf⟩ := h1
    obtain ⟨a, len, cap, l, e, hI⟩ := in_bytes hf
    injection e with e1 e2 e3
    subst e1 e2 e3
    have := hI.1.1
    subst this
    exact ⟨l, rfl, hI⟩
  subst hl
  clear hA0 hval0
  refine (crewWorks_walk k A c a1 cap1 l W hK hB).mono fun e W' ⟨he, bel⟩ => ?_
  subst he
  exact ⟨_, rfl, _, _, _, [], _, [], hW', trodAll_mk1 (shut_bool Tryz.underlying4 _), (trodAll_cons_mk (Below.trod laidOut (by kernel_rfl) (of_decide_eq_true (by kernel_rfl)) k0 bel lt0) (trodAll_cons_mk (Below.trod laidOut (by kernel_rfl) (of_decide_eq_true (by kernel_rfl)) k1 bel lt1) trodAll_mk0)), rfl, bel.frame _, fun h => by cases h⟩

theorem over : Rows.crewWorksRow.holds Tryz.pinned (OpenSpec.ofChange Rows.crewWorksSpec) :=
  OpenClaim.holds_of_wide 3 Tryz.f3 rfl rfl rfl rfl rfl rfl rfl ⟨rfl, rfl, rfl, rfl, rfl⟩ rfl rfl rfl rfl rfl (by kernel_rfl) Tryz.func3 (by kernel_rfl)
    (of_decide_eq_true (by kernel_rfl)) (by unfold Func.isWrapper; first | (rw [if_pos (by decide +kernel)]; kernel_rfl) | (rw [if_neg (by decide +kernel)]; exact ⟨rfl, rfl⟩))
    (fun os started H enc _ => lifted os started H enc)

end Go.Proofs.YtpbclmnhkmcknaaGreat.crewWorks
namespace Go.Proofs.YtpbclmnhkmcknaaGreat

/-- The statement. -/
theorem crewWorks_holds : Rows.CrewWorksSaid := crewWorks.over
#print axioms crewWorks_holds

end Go.Proofs.YtpbclmnhkmcknaaGreat
