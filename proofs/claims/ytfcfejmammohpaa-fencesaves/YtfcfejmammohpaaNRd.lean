/-
  The contracts of read: for each letter.
-/
import Derived.Test.YtfcfejmammohpaaNIter
namespace Go.Proofs.Ytfcfejmammohpaa
open Go.RowKit
set_option linter.unusedVariables false

def one : Nat → Bool := fun n => n == 1
abbrev nilV : Value := .slice none 0 0
/-- All blocks but two are as they were. -/
structure Still (p q : Nat) (w w' : World) : Prop where
  os : w'.os = w.os
  tape : w'.tape = w.tape
  output : w'.output = w.output
  size : w.heap.size ≤ w'.heap.size
  block : ∀ k, k < w.heap.size → k ≠ p → k ≠ q → w'.heap[k]? = w.heap[k]?
theorem Still.below {p q B : Nat} {w w' : World} (h : Still p q w w') (hp : B ≤ p) (hq : B ≤ q) (hB : B ≤ w.heap.size) : Below B w w' :=
  ⟨h.os, h.tape, h.output, h.size, fun k hk => h.block k (by omega) (by omega) (by omega)⟩
theorem Still.lies {p q : Nat} {w w' : World} (h : Still p q w w') {g : Nat} {t : TypeId} {cs : Array Value} (hp : g ≠ p) (hq : g ≠ q) (hL : Lies w g t cs) : Lies w' g t cs := (h.block g hL.lt hp hq).trans hL
theorem Still.it {p q : Nat} {w w' : World} (h : Still p q w w') {k : Nat} {s : List Nat} {j : Nat} (hp : k ≠ p) (hq : k ≠ q) (hI : It w k s j) : It w' k s j := (h.block k hI.lt hp hq).trans hI
theorem Still.of {p q o : Nat} {w w' : World} (h : w.grownBy w' (some p)) (v : Value) : Still p q w (w'.setCell ⟨q, o, none⟩ v) :=
  ⟨h.os, h.tape, h.output, by simpa [World.setCell] using h.size, fun k hk hp hq => (heap_setCell_other w' ⟨q, o, none⟩ k v hq).trans (h.block k hk (fun e => hp (by injection e)))⟩
theorem Rd.setq {T : TypeId} {w : World} {p q : Nat} {s : Ent.St} {l : List Nat} (h : Rd T w p s l) (hpq : p < q) (o : Nat) (u : Value) : Rd T (w.setCell ⟨q, o, none⟩ u) p s l := by
  obtain ⟨A, c, hL, hB, h3, h4⟩ := h
  exact ⟨A, c, hL.other (a := ⟨q, o, none⟩) (by show p ≠ q; omega) u, hB.setOther (fun ad e => by have := h3 ad e; omega) u, h3, h4⟩
/-- A note lies at q, its texts are the call's own, the reader is at its place. -/
def NoteAt (w : World) (p q B0 : Nat) (l : List Nat) (x : Note × Ent.St) : Prop :=
  ∃ K D, Lies w q 29 (evs x.1 K D) ∧ Own w B0 K x.1.key ∧ Own w B0 D x.1.data ∧ (∀ g, K.ownBlock = some g → D.ownBlock ≠ some g) ∧ Rd 135 w p x.2 l
def ReadPost (w : World) (p q B0 : Nat) (l : List Nat) (x : Note × Ent.St) (y : Ending) (w' : World) : Prop :=
  y = .returned (.tuple #[]) ∧ NoteAt w' p q B0 l x ∧ Still p q w w'
theorem read_close {w w1 : World} {p q B0 i : Nat} {l : List Nat} {s1 : Ent.St} {e e' : Note} {K D K' D' v : Value} (hR1 : Rd 135 w1 p s1 l) (hg1 : w.grownBy w1 (some p)) (hE : Lies w q 29 (evs e K D)) (hpq : p < q)
    (hput : (evs e K D).setIfInBounds i v = evs e' K' D') (hK : Own w1 B0 K' e'.key) (hD : Own w1 B0 D' e'.data) (hne : ∀ g, K'.ownBlock = some g → D'.ownBlock ≠ some g) :
    ReadPost w p q B0 l (e', s1) (.returned (.tuple #[])) (w1.setCell ⟨q, i, none⟩ v) := by
  have hL := hE.grown hg1 (fun h => by injection h; omega)
  refine ⟨rfl, ⟨K', D', ?_, hK.setOther (a := ⟨q, i, none⟩) (hK.ne hL (by decide)) v, hD.setOther (a := ⟨q, i, none⟩) (hD.ne hL (by decide)) v, hne, hR1.setq hpq i v⟩, Still.of hg1 v⟩
  show Lies _ q 29 (evs e' K' D')
  rw [← hput]
  exact hL.put i v
theorem Rd.own_ne {w : World} {p B0 : Nat} {s : Ent.St} {l : List Nat} {v : Value} {x : List Nat} (h : Rd 135 w p s l) (hO : Own w B0 v x) : ∀ g, v.ownBlock = some g → some p ≠ some g := fun g hg e => by
  obtain ⟨A, c, hL, _⟩ := h
  exact hO.ne hL (by decide) (e.trans hg.symm)

end Go.Proofs.Ytfcfejmammohpaa
