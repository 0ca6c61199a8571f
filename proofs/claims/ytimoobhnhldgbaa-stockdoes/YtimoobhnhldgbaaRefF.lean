/-
  What a call that changes the reference's stock leaves alone.
-/
import Derived.Test.YtimoobhnhldgbaaRefG
namespace Go.Proofs.Ytimoobhnhldgbaa
open Go.Proofs Go.RowKit
set_option maxRecDepth 100000
set_option linter.unusedVariables false

/-- Only the reference's own block and its two rows may have turned. -/
structure RFrm (w w' : World) (g : Nat) (vL vA : Value) : Prop where
  os : w'.os = w.os
  tape : w'.tape = w.tape
  output : w'.output = w.output
  size : w.heap.size ≤ w'.heap.size
  block : ∀ k, k < w.heap.size → k ≠ g → vL.ownBlock ≠ some k → vA.ownBlock ≠ some k → w'.heap[k]? = w.heap[k]?
theorem RFrm.of_below {w w' : World} (hb : Below w.heap.size w w') (g : Nat) (vL vA : Value) : RFrm w w' g vL vA := ⟨hb.os, hb.tape, hb.output, hb.size, fun k hk _ _ _ => hb.block k hk⟩
theorem RFrm.grownL {w w1 w' : World} {g : Nat} {vL vA : Value} (h : RFrm w w1 g vL vA) {r : Option Nat} (hg : w1.grownBy w' r) (hr : ∀ k, r = some k → k = g ∨ vL.ownBlock = some k ∨ vA.ownBlock = some k ∨ w.heap.size ≤ k) : RFrm w w' g vL vA :=
  ⟨hg.os.trans h.os, hg.tape.trans h.tape, hg.output.trans h.output, Nat.le_trans h.size hg.size, fun k hk h1 h2 h3 => by
    rw [hg.block k (Nat.lt_of_lt_of_le hk h.size) (fun e => ?_)]
    · exact h.block k hk h1 h2 h3
    · rcases hr k e.symm with h' | h' | h' | h'
      · exact h1 h'
      · exact h2 h'
      · exact h3 h'
      · omega⟩
theorem RFrm.below {w w' : World} {g : Nat} {vL vA : Value} {B : Nat} (h : RFrm w w' g vL vA) (hB : B ≤ w.heap.size) (hg : B ≤ g) (hL : ∀ k, vL.ownBlock = some k → B ≤ k) (hA : ∀ k, vA.ownBlock = some k → B ≤ k) : Below B w w' :=
  ⟨h.os, h.tape, h.output, h.size, fun k hk => h.block k (by omega) (by omega) (fun e => by have := hL k e; omega) (fun e => by have := hA k e; omega)⟩
theorem RFrm.trans_below {w w1 w' : World} {g : Nat} {vL vA : Value} (h : RFrm w w1 g vL vA) (hb : Below w1.heap.size w1 w') : RFrm w w' g vL vA :=
  ⟨hb.os.trans h.os, hb.tape.trans h.tape, hb.output.trans h.output, Nat.le_trans h.size hb.size, fun k hk h1 h2 h3 => (hb.block k (Nat.lt_of_lt_of_le hk h.size)).trans (h.block k hk h1 h2 h3)⟩

theorem OwnE.one {α : Type} {enc : α → List Value} {e : TypeId} {k : Nat} {w : World} {B : Nat} {v : Value} {l : List α} (h : OwnE enc e k w B v l) : v.oneCell' = true := by
  rcases h.form with ⟨rfl, _⟩ | ⟨g', cap, cur, rfl, _⟩ <;> rfl

/-- L's row grew, and is put in its place. -/
theorem RAt.putL {W w4 w5 : World} {B g : Nat} {vF vL vA v4 : Value} {r : Rs} {L' : List Hd} (h : RAt W B g vF vL vA r) (hB : B ≤ W.heap.size) (ho : OwnR w4 B v4 L') (hg : W.grownBy w4 vL.ownBlock) (hb : v4.ownBlock = vL.ownBlock ∨ v4.ownBlock = some W.heap.size) (hp : PutW w4 w5 g 65 #[vF, v4, vA]) : RAt w5 B g vF v4 vA ⟨r.F, L', r.A⟩ ∧ RFrm W w5 g vL vA := by
  have hFg := h.f.ne_lies h.c (by decide)
  have hLg := h.l.ne_lies h.c (by decide)
  have hAg := h.a.ne_lies h.c (by decide)
  have h4g := ho.ne_lies (g := g) (t := 65) (cs := #[vF, vL, vA]) (by
    unfold Lies
    rw [hg.block g h.c.lt (fun e => hLg g e.symm rfl)]
    exact h.c) (by decide)
  have hFL : ∀ k, vF.ownBlock = some k → vL.ownBlock ≠ some k := by
    intro k hk e
    rcases h.f.form with ⟨rfl, _⟩ | ⟨g', cap, cur, rfl, h1, h2, _⟩
    · cases hk
    · have : g' = k := by simpa [Value.ownBlock] using hk
      subst this
      exact h.l.ne_lies h2 (by decide) _ e rfl
  refine ⟨⟨hp.lies, ?_, ?_, ?_, h.lo, fun k hk e => ?_⟩, ?_⟩
  · exact (h.f.grown hg fun k hk e => hFL k hk e.symm).grown hp.grown fun k hk e => hFg k hk (by injection e)
  · exact ho.grown hp.grown fun k hk e => h4g k hk (by injection e)
  · exact (h.a.grown hg fun k hk e => h.ne k e.symm hk).grown hp.grown fun k hk e => hAg k hk (by injection e)
  · rcases hb with hb | hb
    · exact h.ne k (hb ▸ hk) e
    · rw [hb] at hk
      injection hk with hk
      have := (h.a.block k e).2
      omega
  · exact ((RFrm.of_below (Below.refl _ _) g vL vA).grownL hg (fun k e => .inr (.inl e))).grownL hp.grown (fun k e => .inl (by injection e with e; exact e.symm))
/-- A's row grew, and is put in its place. -/
theorem RAt.putA {W w4 w5 : World} {B g : Nat} {vF vL vA v4 : Value} {r : Rs} {A' : List Hd} (h : RAt W B g vF vL vA r) (hB : B ≤ W.heap.size) (ho : OwnR w4 B v4 A') (hg : W.grownBy w4 vA.ownBlock) (hb : v4.ownBlock = vA.ownBlock ∨ v4.ownBlock = some W.heap.size) (hp : PutW w4 w5 g 65 #[vF, vL, v4]) : RAt w5 B g vF vL v4 ⟨r.F, r.L, A'⟩ ∧ RFrm W w5 g vL vA := by
  have hFg := h.f.ne_lies h.c (by decide)
  have hLg := h.l.ne_lies h.c (by decide)
  have hAg := h.a.ne_lies h.c (by decide)
  have h4g := ho.ne_lies (g := g) (t := 65) (cs := #[vF, vL, vA]) (by
    unfold Lies
    rw [hg.block g h.c.lt (fun e => hAg g e.symm rfl)]
    exact h.c) (by decide)
  have hFA : ∀ k, vF.ownBlock = some k → vA.ownBlock ≠ some k := by
    intro k hk e
    rcases h.f.form with ⟨rfl, _⟩ | ⟨g', cap, cur, rfl, h1, h2, _⟩
    · cases hk
    · have : g' = k := by simpa [Value.ownBlock] using hk
      subst this
      exact h.a.ne_lies h2 (by decide) _ e rfl
  refine ⟨⟨hp.lies, ?_, ?_, ?_, h.lo, fun k hk e => ?_⟩, ?_⟩
  · exact (h.f.grown hg fun k hk e => hFA k hk e.symm).grown hp.grown fun k hk e => hFg k hk (by injection e)
  · exact (h.l.grown hg fun k hk e => h.ne k hk e.symm).grown hp.grown fun k hk e => hLg k hk (by injection e)
  · exact ho.grown hp.grown fun k hk e => h4g k hk (by injection e)
  · rcases hb with hb | hb
    · exact h.ne k hk (hb ▸ e)
    · rw [hb] at e
      injection e with e
      have := (h.l.block k hk).2
      omega
  · exact ((RFrm.of_below (Below.refl _ _) g vL vA).grownL hg (fun k e => .inr (.inr (.inl e)))).grownL hp.grown (fun k e => .inl (by injection e with e; exact e.symm))
/-- A new row takes L's place. -/
theorem RAt.swapL {w4 w5 : World} {B g : Nat} {vF vL vA v4 : Value} {r : Rs} {L' : List Hd} (h : RAt w4 B g vF vL vA r) (ho : OwnR w4 B v4 L') (hn : ∀ k, v4.ownBlock = some k → vA.ownBlock ≠ some k) (hp : PutW w4 w5 g 65 #[vF, v4, vA]) : RAt w5 B g vF v4 vA ⟨r.F, L', r.A⟩ := by
  have hFg := h.f.ne_lies h.c (by decide)
  have hAg := h.a.ne_lies h.c (by decide)
  have h4g := ho.ne_lies h.c (by decide)
  exact ⟨hp.lies, h.f.grown hp.grown fun k hk e => hFg k hk (by injection e), ho.grown hp.grown fun k hk e => h4g k hk (by injection e), h.a.grown hp.grown fun k hk e => hAg k hk (by injection e), h.lo, hn⟩

/-- What a change of the reference's stock leaves. -/
def RcPost (w : World) (B g : Nat) (vF vL vA : Value) (V : Bool) (r' : Rs) (e : Ending) (w' : World) : Prop :=
  e = .returned (.int .i64 (verd V)) ∧ ∃ vL' vA', RAt w' B g vF vL' vA' r' ∧ RFrm w w' g vL vA
theorem rc_same {w w' : World} {B g : Nat} {vF vL vA : Value} {r : Rs} (h : RAt w B g vF vL vA r) (hb : Below w.heap.size w w') : RcPost w B g vF vL vA false r (.returned (.int .i64 2)) w' :=
  ⟨rfl, vL, vA, h.below hb, RFrm.of_below hb g vL vA⟩

end Go.Proofs.Ytimoobhnhldgbaa
