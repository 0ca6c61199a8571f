/-
  What came in, as the contracts want it.
-/
import Derived.Test.YtaehagejmeimiaaArgs
import Derived.Test.YtaehagejmeimiaaKnown
import Derived.Deep.Matrix
namespace Go.Proofs.Ytaehagejmeimiaa
open Go.RowKit

/-- A slice of bytes that came in. -/
def InBytes (w : World) (a : Option Addr) (len cap : Nat) (l : List Nat) : Prop := Bys w a len l ∧ len ≤ cap ∧ cap ≤ maxLen ∧ (a = none → cap = 0)
/-- A slice of slices of bytes that came in. -/
def InLists (w : World) (a : Option Addr) (len cap : Nat) (ls : List (List Nat)) : Prop := len ≤ cap ∧ cap ≤ maxLen ∧ (a = none → cap = 0) ∧ ∃ vs, Cells w a len vs ∧ AllRead w vs ls
theorem InLists.nil (w : World) : InLists w none 0 0 [] := ⟨Nat.le_refl _, by unfold maxLen; omega, fun _ => rfl, [], ⟨rfl, fun h => absurd h (by omega)⟩, AllRead.nil w⟩
theorem InBytes.below {w w' : World} {a : Option Addr} {len cap : Nat} {l : List Nat} (h : InBytes w a len cap l) (hb : Below w.heap.size w w') : InBytes w' a len cap l := ⟨h.1.below hb, h.2⟩
theorem InLists.below {w w' : World} {a : Option Addr} {len cap : Nat} {ls : List (List Nat)} (h : InLists w a len cap ls) (hb : Below w.heap.size w w') : InLists w' a len cap ls := by
  obtain ⟨h1, h2, h3, vs, h4, h5⟩ := h
  exact ⟨h1, h2, h3, vs, h4.below hb, h5.below hb⟩

theorem in_lists {w : World} {x : Addr} {len cap : Nat} {A : Nat → Option Addr} {L C : Nat → Nat} {Z : Nat → List Int} (hl : len ≤ cap) (hm : cap ≤ maxLen)
    (hr : ∀ r, r < cap → w.cell? (x.add r) = some (.slice (A r) (L r) (C r)) ∧ L r ≤ C r ∧ C r ≤ maxLen ∧ (Z r).length = C r ∧ (∀ n ∈ Z r, (Lit.int .u8 n).wf = true) ∧ (A r = none → C r = 0) ∧
        ∀ a', A r = some a' → 0 ≤ a'.block ∧ ∀ c, c < C r → w.cell? (a'.add c) = some (.int .u8 ((Z r).getD c 0))) : ∃ ls, InLists w (some x) len cap ls := by
  have each : ∀ r, r < len → ∃ l, Bys w (A r) (L r) l ∧ L r ≤ C r ∧ C r ≤ maxLen ∧ (A r = none → C r = 0) := fun r hlt => by
    obtain ⟨_, h2, h3, h4, h5, h6, h7⟩ := hr r (by omega)
    have hrow : IsRow .u8 w (A r) (L r) (C r) (Z r) := by
      cases hA : A r with
      | none =>
        have hc := h6 hA
        exact .inl ⟨rfl, by omega, hc, List.eq_nil_of_length_eq_zero (by omega)⟩
      | some a' => exact .inr ⟨a', rfl, h2, h3, h4, fun i hi => (h7 a' hA).2 i (by omega), h5⟩
    exact hrow.bys
  obtain ⟨f, hf⟩ := Deep.choose_lt each
  refine ⟨(List.range len).map f, hl, hm, (fun h => by cases h), (List.range len).map (fun r => .slice (A r) (L r) (C r)), ⟨by simp, fun h0 => ?_⟩, by simp, fun i h1 h2 => ?_⟩
  · obtain ⟨b, off, spot⟩ := x
    have hc0 := (hr 0 (by omega)).1
    have hspot : spot = none := by simpa [Addr.add] using World.cell?_spot hc0
    subst hspot
    refine ⟨b, off, rfl, fun i hi => ?_⟩
    have := (hr i (by omega)).1
    rw [add_off] at this
    rw [this]
    simp [hi]
  · have hi : i < len := by simpa using h1
    have hh := hf i hi
    simp only [List.getElem_map, List.getElem_range]
    have hlen : (f i).length = L i := hh.1.1
    exact ⟨A i, C i, by rw [hlen], by rw [hlen]; exact hh.1, by rw [hlen]; exact hh.2.1, hh.2.2⟩

end Go.Proofs.Ytaehagejmeimiaa
