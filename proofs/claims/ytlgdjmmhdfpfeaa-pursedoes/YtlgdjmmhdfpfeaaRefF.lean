/-
  What a call that changes the reference's purse leaves alone.
-/
import Derived.Test.YtlgdjmmhdfpfeaaRefG
import Derived.Test.YtlgdjmmhdfpfeaaSettle
namespace Go.Proofs.Ytlgdjmmhdfpfeaa
open Go.Proofs Go.RowKit
set_option maxRecDepth 100000
set_option linter.unusedVariables false

/-- Only the reference's own block and its row of payments may have turned. -/
structure RFrm (w w' : World) (g : Nat) (vL : Value) : Prop where
  os : w'.os = w.os
  tape : w'.tape = w.tape
  output : w'.output = w.output
  size : w.heap.size ≤ w'.heap.size
  block : ∀ k, k < w.heap.size → k ≠ g → vL.ownBlock ≠ some k → w'.heap[k]? = w.heap[k]?
theorem RFrm.of_below {w w' : World} (hb : Below w.heap.size w w') (g : Nat) (vL : Value) : RFrm w w' g vL := ⟨hb.os, hb.tape, hb.output, hb.size, fun k hk _ _ => hb.block k hk⟩
theorem RFrm.grownL {w w1 w' : World} {g : Nat} {vL : Value} (h : RFrm w w1 g vL) {r : Option Nat} (hg : w1.grownBy w' r) (hr : ∀ k, r = some k → k = g ∨ vL.ownBlock = some k ∨ w.heap.size ≤ k) : RFrm w w' g vL :=
  ⟨hg.os.trans h.os, hg.tape.trans h.tape, hg.output.trans h.output, Nat.le_trans h.size hg.size, fun k hk h1 h2 => by
    rw [hg.block k (Nat.lt_of_lt_of_le hk h.size) (fun e => ?_)]
    · exact h.block k hk h1 h2
    · rcases hr k e.symm with h' | h' | h'
      · exact h1 h'
      · exact h2 h'
      · omega⟩
theorem RFrm.below {w w' : World} {g : Nat} {vL : Value} {B : Nat} (h : RFrm w w' g vL) (hB : B ≤ w.heap.size) (hg : B ≤ g) (hL : ∀ k, vL.ownBlock = some k → B ≤ k) : Below B w w' :=
  ⟨h.os, h.tape, h.output, h.size, fun k hk => h.block k (by omega) (by omega) (fun e => by have := hL k e; omega)⟩

theorem OwnE.one {α : Type} {enc : α → List Value} {e : TypeId} {k : Nat} {w : World} {B : Nat} {v : Value} {l : List α} (h : OwnE enc e k w B v l) : v.oneCell' = true := by
  rcases h.form with ⟨rfl, _⟩ | ⟨g', cap, cur, rfl, _⟩ <;> rfl

/-- L's row grew, and is put in its place. -/
theorem RAt.putL {W w4 w5 : World} {B g : Nat} {vF vL v4 : Value} {r : Rs} {L' : List Hd} (h : RAt W B g vF vL r) (hB : B ≤ W.heap.size) (ho : OwnR w4 B v4 L') (hg : W.grownBy w4 vL.ownBlock) (hp : PutW w4 w5 g 63 #[vF, v4]) : RAt w5 B g vF v4 ⟨r.F, L'⟩ ∧ RFrm W w5 g vL := by
  have hFg := h.f.ne_lies h.c (by decide)
  have hLg := h.l.ne_lies h.c (by decide)
  have h4g := ho.ne_lies (g := g) (t := 63) (cs := #[vF, vL]) (by
    unfold Lies
    rw [hg.block g h.c.lt (fun e => hLg g e.symm rfl)]
    exact h.c) (by decide)
  have hFL : ∀ k, vF.ownBlock = some k → vL.ownBlock ≠ some k := by
    intro k hk e
    rcases h.f.form with ⟨rfl, _⟩ | ⟨g', cap, cur, rfl, h1, h2, _⟩
    · cases hk
    · have : g' = k := by simpa [Value.ownBlock] using hk
      subst this
      exact h.l.ne_lies h2 (by decide) _ e rfl
  refine ⟨⟨hp.lies, ?_, ?_, h.lo⟩, ?_⟩
  · exact (h.f.grown hg fun k hk e => hFL k hk e.symm).grown hp.grown fun k hk e => hFg k hk (by injection e)
  · exact ho.grown hp.grown fun k hk e => h4g k hk (by injection e)
  · exact ((RFrm.of_below (Below.refl _ _) g vL).grownL hg (fun k e => .inr (.inl e))).grownL hp.grown (fun k e => .inl (by injection e with e; exact e.symm))

/-- What a change of the reference's purse leaves. -/
def RcPost (w : World) (B g : Nat) (vF vL : Value) (V : Bool) (r' : Rs) (e : Ending) (w' : World) : Prop :=
  e = .returned (.int .i64 (verd V)) ∧ ∃ vL', RAt w' B g vF vL' r' ∧ RFrm w w' g vL
theorem rc_same {w w' : World} {B g : Nat} {vF vL : Value} {r : Rs} (h : RAt w B g vF vL r) (hb : Below w.heap.size w w') : RcPost w B g vF vL false r (.returned (.int .i64 2)) w' :=
  ⟨rfl, vL, h.below hb, RFrm.of_below hb g vL⟩

/-- One cell of one element of a row of payments is written. -/
theorem OwnR.set1 {w : World} {B b : Nat} {n c : Nat} {L : List Hd} (h : OwnR w B (.slice (some ⟨b, 0, none⟩) n c) L) (i : Nat) (hi : i < L.length) (t : Nat) :
    OwnR (w.setCell ⟨b, i * 4 + 3, none⟩ (.int .i64 (t : Int))) B (.slice (some ⟨b, 0, none⟩) n c) (L.set i ⟨L[i].o, L[i].n, L[i].k, t⟩) := by
  rcases h.form with ⟨h1, _⟩ | ⟨g, cap, cur, hv, h1, h2, h3, h4, h5, h6⟩
  · cases h1
  · injection hv with q1 q2 q3
    injection q1 with q1
    injection q1 with q1
    subst q1 q2 q3
    have hl := flat_len encH_len L
    refine ⟨by rw [flat_len encH_len], .inr ⟨b, c, cur.setIfInBounds (i * 4 + 3) (.int .i64 (t : Int)), by rw [List.length_set], h1, h2.put _ _, by rw [List.length_set]; exact h3, h4, by rw [Array.size_setIfInBounds]; exact h5, ?_⟩⟩
    rw [List.length_set]
    apply List.ext_getElem?
    intro j
    by_cases hj : j < L.length * 4
    · rw [List.getElem?_take_of_lt hj, Array.getElem?_toList, Array.getElem?_setIfInBounds]
      have hq : j / 4 < L.length := Nat.div_lt_of_lt_mul (by omega)
      have hm : j % 4 < 4 := Nat.mod_lt _ (by decide)
      have hjj : j / 4 * 4 + j % 4 = j := by omega
      have hf := flat_get encH_len (L.set i ⟨L[i].o, L[i].n, L[i].k, t⟩) (j / 4) (by rw [List.length_set]; exact hq) (j % 4) hm
      rw [hjj] at hf
      have hf0 := flat_get encH_len L (j / 4) hq (j % 4) hm
      rw [hjj] at hf0
      have hcur : cur[j]? = (flat encH L)[j]? := by rw [← h6, List.getElem?_take_of_lt hj, Array.getElem?_toList]
      rw [hf, List.getElem_set]
      by_cases hji : j = i * 4 + 3
      · have hd : i = j / 4 := by omega
        have hmod : j % 4 = 3 := by omega
        have hsz : i * 4 + 3 < cur.size := by rw [h5]; omega
        rw [if_pos hji.symm, if_pos hsz, if_pos hd, hmod]
        rfl
      · rw [if_neg (fun e => hji e.symm), hcur, hf0]
        by_cases hd : i = j / 4
        · rw [if_pos hd]
          subst hd
          have hmod : j % 4 = 0 ∨ j % 4 = 1 ∨ j % 4 = 2 := by omega
          rcases hmod with h | h | h <;> rw [h] <;> rfl
        · rw [if_neg hd]
    · rw [List.getElem?_take_eq_none (by omega), List.getElem?_eq_none (by rw [flat_len encH_len, List.length_set]; omega)]

end Go.Proofs.Ytlgdjmmhdfpfeaa
