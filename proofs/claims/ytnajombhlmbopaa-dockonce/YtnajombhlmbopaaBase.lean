/-
  Values, blocks known whole, slices of bytes, writers, lists: what the walks stand on.
-/
import Derived.Test.YtnajombhlmbopaaRows
import Derived.WalkKit
import Derived.WalkSpells
import Derived.WalkLawsBesides
import Derived.Laws.BitsAllLaws
import Derived.Lib.Hide
import Derived.Deep.MidRow
import Derived.Outline
import Derived.Deep.QuietTactic
import Derived.BigQuiet
import Derived.Laws.AppendOwnNone
import Derived.Laws.OwnMore
import Derived.Deep.RegionHeld3
import Derived.Deep.AppendLies
import Derived.Laws.MakeOwn
import Derived.Laws.CopyOwn
import Derived.Deep.RegionLaw
import Derived.Deep.DrawnRows
import Derived.IntWalk
import Derived.ProofKit
import Derived.OpenShut
import Derived.Maps.AppendAt
import Derived.Maps.OwnSet
import Derived.Maps.RangeWalk
import Derived.Sort.EncStr
namespace Go.Proofs.Ytnajombhlmbopaa
open Go.RowKit
set_option maxRecDepth 100000
set_option linter.unusedVariables false

theorem ret_int {k : IntKind} {a b : Int} (h : a = b) : Ending.returned (.int k a) = .returned (.int k b) := by rw [h]
theorem val_int {k : IntKind} {a b : Int} (h : a = b) : Value.int k a = Value.int k b := by rw [h]



/-- Block g is just these cells. -/
def Lies (w : World) (g : Nat) (t : TypeId) (cs : Array Value) : Prop := w.heap[g]? = some (.cells cs t (0, 0))

theorem Lies.lt {w : World} {g : Nat} {t : TypeId} {cs : Array Value} (h : Lies w g t cs) : g < w.heap.size := by
  refine Classical.byContradiction fun hn => ?_
  unfold Lies at h
  rw [Array.getElem?_eq_none (by omega)] at h
  cases h
theorem Lies.cell {w : World} {g : Nat} {t : TypeId} {cs : Array Value} (h : Lies w g t cs) (i : Nat) : w.cell? ⟨g, i, none⟩ = cs[i]? := cell_of_row w g i cs t (0, 0) h
theorem Lies.free {w : World} {g : Nat} {t : TypeId} {cs : Array Value} (h : Lies w g t cs) (i : Nat) : w.frozen? ⟨g, i, none⟩ = false := frozen_of_row w g i cs t h
theorem Lies.made (w : World) (t : TypeId) (cs : Array Value) : Lies (w.alloc (.cells cs t)) w.heap.size t cs := heap_alloc_new w _
theorem Lies.alloc {w : World} {g : Nat} {t : TypeId} {cs : Array Value} (h : Lies w g t cs) (o : Obj) : Lies (w.alloc o) g t cs := (Below.heap_alloc w o g h.lt).trans h
theorem Lies.put {w : World} {g : Nat} {t : TypeId} {cs : Array Value} (h : Lies w g t cs) (i : Nat) (v : Value) : Lies (w.setCell ⟨g, i, none⟩ v) g t (cs.setIfInBounds i v) := heap_setCell_same w g i cs t v h
theorem Lies.other {w : World} {g : Nat} {t : TypeId} {cs : Array Value} (h : Lies w g t cs) {a : Addr} (ha : g ≠ a.block) (v : Value) : Lies (w.setCell a v) g t cs := (heap_setCell_other w a g v ha).trans h
theorem Lies.below {w w' : World} {g B : Nat} {t : TypeId} {cs : Array Value} (h : Lies w g t cs) (hb : Below B w w') (hg : g < B) : Lies w' g t cs := (hb.block g hg).trans h

theorem Lies.there {w : World} {g : Nat} {t : TypeId} {cs : Array Value} (h : Lies w g t cs) (n : Nat) (hn : n ≤ cs.size) : w.there g 0 n := fun j hj => by
  rw [Nat.zero_add]
  exact ⟨by rw [h.cell, Array.getElem?_eq_getElem (by omega)]; rfl, h.free j⟩
theorem Lies.puts' {g : Nat} {t : TypeId} : ∀ (vs : List Value) (o : Nat) (w : World) (cs : Array Value), Lies w g t cs → o + vs.length ≤ cs.size →
    ∃ ds, Lies (w.setCells g o vs) g t ds ∧ ds.size = cs.size ∧ ∀ j, ds[j]? = if o ≤ j ∧ j < o + vs.length then vs[j - o]? else cs[j]?
  | [], o, w, cs, h, _ => ⟨cs, h, rfl, fun j => by rw [if_neg (by simp)]⟩
  | v :: r, o, w, cs, h, hn => by
    obtain ⟨ds, h1, h2, h3⟩ := Lies.puts' r (o + 1) _ _ (h.put o v) (by simp at hn ⊢; omega)
    refine ⟨ds, h1, by simpa using h2, fun j => ?_⟩
    rw [h3 j]
    simp only [List.length_cons] at hn ⊢
    rw [Array.getElem?_setIfInBounds]
    by_cases a : o + 1 ≤ j ∧ j < o + 1 + r.length
    · rw [if_pos a, if_pos (by omega)]
      obtain ⟨i, hi⟩ : ∃ i, j - o = i + 1 := ⟨j - o - 1, by omega⟩
      rw [hi, List.getElem?_cons_succ]
      congr 1; omega
    · rw [if_neg a]
      by_cases b : o = j
      · subst b
        rw [if_pos rfl, if_pos (by omega), if_pos (by omega), Nat.sub_self, List.getElem?_cons_zero]
      · rw [if_neg b, if_neg (by omega)]
theorem Lies.puts {w : World} {g : Nat} {t : TypeId} {cs : Array Value} (h : Lies w g t cs) (T : Array Value) (hT : T.size = cs.size) : Lies (w.setCells g 0 T.toList) g t T := by
  obtain ⟨ds, h1, h2, h3⟩ := Lies.puts' T.toList 0 w cs h (by simp; omega)
  have : ds = T := by
    apply Array.ext_getElem?
    intro j
    rw [h3 j]
    by_cases hj : j < T.size
    · rw [if_pos (by simp; omega)]; simp
    · rw [if_neg (by simp; omega), Array.getElem?_eq_none (by omega), Array.getElem?_eq_none (by omega)]
  rw [this] at h1; exact h1
theorem Lies.puts_other {w : World} {g b : Nat} {t : TypeId} {cs : Array Value} (h : Lies w g t cs) (hne : g ≠ b) (vs : List Value) (o : Nat) : Lies (w.setCells b o vs) g t cs := by
  induction vs generalizing w o with
  | nil => exact h
  | cons v r ih => exact ih (h.other (a := ⟨b, o, none⟩) hne v) (o + 1)
theorem below_puts {B b : Nat} {a w : World} (h : Below B a w) (hb : B ≤ b) (vs : List Value) (o : Nat) : Below B a (w.setCells b o vs) := by
  induction vs generalizing w o with
  | nil => exact h
  | cons v r ih => exact ih (h.setCell (p := ⟨b, o, none⟩) hb v) (o + 1)
theorem size_one (w : World) (o : Obj) : (w.alloc o).heap.size = w.heap.size + 1 := by simp
theorem Lies.made2 (w : World) (o : Obj) (t : TypeId) (cs : Array Value) : Lies ((w.alloc o).alloc (.cells cs t)) (w.heap.size + 1) t cs := by
  have := Lies.made (w.alloc o) t cs
  rwa [size_one] at this
theorem Lies.made3 (w : World) (o o2 : Obj) (t : TypeId) (cs : Array Value) : Lies (((w.alloc o).alloc o2).alloc (.cells cs t)) (w.heap.size + 1 + 1) t cs := by
  have := Lies.made2 (w.alloc o) o2 t cs
  rwa [size_one] at this


theorem ret_bool {a b : Bool} (h : a = b) : Ending.returned (.bool a) = .returned (.bool b) := by rw [h]
theorem below1 (w : World) (o : Obj) : Below w.heap.size w (w.alloc o) := (Below.refl _ _).alloc (Nat.le_refl _) _
theorem below2 (w : World) (o p : Obj) : Below w.heap.size w ((w.alloc o).alloc p) := ((Below.refl _ _).alloc (Nat.le_refl _) _).alloc (by simp) _
theorem range_of_lies {w : World} {g : Nat} {t : TypeId} {cs : Array Value} (h : Lies w g t cs) : w.rangeAt g 0 cs.toList := fun j v hv => by
  rw [Nat.zero_add, h.cell]
  simpa using hv
theorem below_drewN {B : Nat} {a w : World} (h : Below B a w) (n : Nat) : Below B a (w.drewN n) := ⟨h.os, h.tape, h.output, h.size, h.block⟩
section
variable {P : Program} {ops : Array Oper} {Q : Exit → Act → World → Prop} {md : Region.Mode} {S : World → Prop}

/-- An operation that is wanted, and yields the same in every world that meets S, is taken first. -/
theorem any_take (i : Nat) (d : Tmp) {oi : Oper} (v : Value) {fuel : Nat} {listed : Array Bool} {a : Act} {w : World} (hi : ops[i]? = some oi) (hd : oi.dst = some d)
    (hs : Region.noSelect ops = true) (hf : Region.free md ops listed i = true) (hr : (Region.ready md ops listed).contains i = true)
    (hQ : ∀ c a w, Q (.panic c) (a.put (some d) v) w → Q (.panic c) a w) (hw : Region.wanted oi (yielded ops a.tmps) = true) (hy : ∀ w, S w → (execOp a.eval oi).run P w = .ok (.value v) w) (hS : S w)
    (h : wpAnyH P md ops Q S fuel (listed.setIfInBounds i true) (a.put (some d) v) w) : wpAnyH P md ops Q S (fuel + 1) listed a w :=
  wpAnyH_take hi hs hf hr (by rw [hd]; exact hQ) (.inl ⟨hw, hy⟩) hS (by rw [hd]; exact h)

/-- An operation that is not wanted. -/
theorem any_skip (i : Nat) (d : Tmp) {oi : Oper} {fuel : Nat} {listed : Array Bool} {a : Act} {w : World} (hi : ops[i]? = some oi) (hd : oi.dst = some d)
    (hs : Region.noSelect ops = true) (hf : Region.free md ops listed i = true) (hr : (Region.ready md ops listed).contains i = true)
    (hQ : ∀ c a w, Q (.panic c) (a.put (some d) undef) w → Q (.panic c) a w) (hw : Region.wanted oi (yielded ops a.tmps) = false) (hS : S w)
    (h : wpAnyH P md ops Q S fuel (listed.setIfInBounds i true) (a.put (some d) undef) w) : wpAnyH P md ops Q S (fuel + 1) listed a w :=
  wpAnyH_take hi hs hf hr (by rw [hd]; exact hQ) (.inr ⟨hw, rfl⟩) hS (by rw [hd]; exact h)
end


end Go.Proofs.Ytnajombhlmbopaa
