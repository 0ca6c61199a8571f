/-
  A note's fields, as the document has them: their bytes, and that they may be.
-/
import Derived.Test.YtfcfejmammohpaaROne
namespace Go.Proofs.Ytfcfejmammohpaa
open Go.RowKit
set_option maxRecDepth 100000
set_option linter.unusedVariables false

theorem flat_at : ∀ (fs : List Fld) (i j : Nat) (h : i < fs.length), j < 3 → (fs.flatMap Fld.cells)[i * 3 + j]? = (fs[i].cells)[j]?
  | f :: r, 0, j, _, hj => by
    rw [List.flatMap_cons, Nat.zero_mul, Nat.zero_add, List.getElem?_append_left (by show j < f.cells.length; exact hj)]
    rfl
  | f :: r, i + 1, j, h, hj => by
    have hl : f.cells.length = 3 := rfl
    rw [List.flatMap_cons, List.getElem?_append_right (by rw [hl]; omega), hl, show (i + 1) * 3 + j - 3 = i * 3 + j by omega, flat_at r i j (by simpa using h) hj]
    rfl
theorem frow_flds {w : World} {B : Nat} {v : Value} {fs : List Fld} (h : FRow w B v fs.length (fs.flatMap Fld.cells)) (h0 : 0 < fs.length) (hm : ∀ f ∈ fs, f.May w) :
    ∃ g cap, v = .slice (some ⟨g, 0, none⟩) fs.length cap ∧ Flds w g fs := by
  obtain ⟨hl, ⟨_, hz⟩ | ⟨g, cap, cur, hv, _, hg, _, _, _, ht⟩⟩ := h
  · omega
  · refine ⟨g, cap, hv, fun i hi => ⟨hm _ (List.getElem_mem hi), ?_, ?_, ?_⟩⟩
    all_goals
      rw [Lies.cell hg]
    · have := flat_at fs i 0 hi (by decide)
      rw [← ht, List.getElem?_take, if_pos (by omega), Array.getElem?_toList, Nat.add_zero] at this
      rw [this]; rfl
    · have := flat_at fs i 1 hi (by decide)
      rw [← ht, List.getElem?_take, if_pos (by omega), Array.getElem?_toList] at this
      rw [this]; rfl
    · have := flat_at fs i 2 hi (by decide)
      rw [← ht, List.getElem?_take, if_pos (by omega), Array.getElem?_toList] at this
      rw [this]; rfl
theorem frow_below {w w' : World} {B : Nat} {v : Value} {n : Nat} {xs : List Value} (h : FRow w B v n xs) (hb : Below w.heap.size w w') : FRow w' B v n xs := by
  obtain ⟨h0, h1⟩ := h
  refine ⟨h0, ?_⟩
  rcases h1 with h1 | ⟨g, cap, cur, hv, hg0, hg, hr⟩
  · exact .inl h1
  · exact .inr ⟨g, cap, cur, hv, hg0, Lies.below hg hb (Lies.lt hg), hr⟩
theorem frow_slice {w : World} {B : Nat} {v : Value} {n : Nat} {xs : List Value} (h : FRow w B v n xs) : ∃ A c, v = .slice A n c := by
  rcases h.2 with ⟨rfl, h0⟩ | ⟨g, cap, cur, rfl, _⟩
  · exact ⟨none, 0, by rw [h0]⟩
  · exact ⟨_, cap, rfl⟩

end Go.Proofs.Ytfcfejmammohpaa
