/-
  What a call that changes the reference's dock leaves alone.
-/
import Derived.Test.YtnajombhlmbopaaRefA
import Derived.Test.YtnajombhlmbopaaRegS
namespace Go.Proofs.Ytnajombhlmbopaa
open Go.Proofs Go.RowKit
set_option maxRecDepth 100000
set_option linter.unusedVariables false

/-- Only the reference's own block and its row of bookings may have turned. -/
structure RFrm (w w' : World) (g : Nat) (vL : Value) : Prop where
  os : w'.os = w.os
  tape : w'.tape = w.tape
  output : w'.output = w.output
  size : w.heap.size ≤ w'.heap.size
  block : ∀ k, k < w.heap.size → k ≠ g → vL.ownBlock ≠ some k → w'.heap[k]? = w.heap[k]?
theorem RFrm.of_below {w w' : World} (hb : Below w.heap.size w w') (g : Nat) (vL : Value) : RFrm w w' g vL := ⟨hb.os, hb.tape, hb.output, hb.size, fun k hk _ _ => hb.block k hk⟩
theorem RFrm.grownL {w w1 w' : World} {g : Nat} {vL : Value} (h : RFrm w w1 g vL) {r : Option Nat} (hg : w1.grownBy w' r) (hr : ∀ k, r = some k → k = g ∨ vL.ownBlock = some k ∨ w.heap.size ≤ k) : RFrm w w' g vL :=
  ⟨hg.os.trans h.os, hg.tape.trans h.tape, hg.output.trans h.output, Nat.le_trans h.size hg.size, fun k hk h1 h2 => by
    rw [hg.block k (Nat.lt_of_lt_of_le hk h.size) (fun e => ?_)]
    · exact h.block k hk h1 h2
    · rcases hr k e.symm with h' | h' | h'
      · exact h1 h'
      · exact h2 h'
      · omega⟩
theorem RFrm.below {w w' : World} {g : Nat} {vL : Value} {B : Nat} (h : RFrm w w' g vL) (hB : B ≤ w.heap.size) (hg : B ≤ g) (hL : ∀ k, vL.ownBlock = some k → B ≤ k) : Below B w w' :=
  ⟨h.os, h.tape, h.output, h.size, fun k hk => h.block k (by omega) (by omega) (fun e => by have := hL k e; omega)⟩

/-- L's row grew, and is put in its place. -/
theorem RAt.putL {W w4 w5 : World} {B g : Nat} {vF vL v4 : Value} {r : Rs} {L' : List Hd} (h : RAt W B g vF vL r) (hB : B ≤ W.heap.size) (ho : OwnR w4 B v4 L') (hg : W.grownBy w4 vL.ownBlock) (hp : PutW w4 w5 g 57 #[vF, v4]) : RAt w5 B g vF v4 ⟨r.F, L'⟩ ∧ RFrm W w5 g vL := by
  have hFg := h.f.ne_lies h.c (by decide)
  have hLg := h.l.ne_lies h.c (by decide)
  have h4g := ho.ne_lies (g := g) (t := 57) (cs := #[vF, vL]) (by
    unfold Lies
    rw [hg.block g h.c.lt (fun e => hLg g e.symm rfl)]
    exact h.c) (by decide)
  have hFL : ∀ k, vF.ownBlock = some k → vL.ownBlock ≠ some k := by
    intro k hk e
    rcases h.f.form with ⟨rfl, _⟩ | ⟨g', cap, cur, rfl, h1, h2, _⟩
    · cases hk
    · have : g' = k := by simpa [Value.ownBlock] using hk
      subst this
      exact h.l.ne_lies h2 (by decide) _ e rfl
  refine ⟨⟨hp.lies, ?_, ?_, h.lo⟩, ?_⟩
  · exact (h.f.grown hg fun k hk e => hFL k hk e.symm).grown hp.grown fun k hk e => hFg k hk (by injection e)
  · exact ho.grown hp.grown fun k hk e => h4g k hk (by injection e)
  · exact ((RFrm.of_below (Below.refl _ _) g vL).grownL hg (fun k e => .inr (.inl e))).grownL hp.grown (fun k e => .inl (by injection e with e; exact e.symm))

/-- What a change of the reference's dock leaves. -/
def RcPost (w : World) (B g : Nat) (vF vL : Value) (u v : Int) (r' : Rs) (e : Ending) (w' : World) : Prop :=
  e = .returned (.tuple #[.int .i64 u, .int .i64 v]) ∧ ∃ vL', RAt w' B g vF vL' r' ∧ RFrm w w' g vL
theorem rc_same {w w' : World} {B g : Nat} {vF vL : Value} {r : Rs} (h : RAt w B g vF vL r) (hb : Below w.heap.size w w') : RcPost w B g vF vL 0 2 r (.returned (.tuple #[.int .i64 0, .int .i64 2])) w' :=
  ⟨rfl, vL, h.below hb, RFrm.of_below hb g vL⟩
def RcPost1 (w : World) (B g : Nat) (vF vL : Value) (v : Int) (r' : Rs) (e : Ending) (w' : World) : Prop :=
  e = .returned (.int .i64 v) ∧ ∃ vL', RAt w' B g vF vL' r' ∧ RFrm w w' g vL

end Go.Proofs.Ytnajombhlmbopaa
