/-
  A row of entries with one more behind it.
-/
import Derived.Test.YtccpmalefdnhdaaAppE
namespace Go.Proofs.Ytccpmalefdnhdaa
open Go.RowKit

/-- The entry that goes on. -/
def moreE (lsn epoch : Nat) : Entry := ⟨6, lsn, epoch, 0, 0, false, 0, 2, 0, [], []⟩
theorem moreE_ok {lsn epoch : Nat} (h1 : lsn ≠ 0) (h2 : epoch ≠ 0) : Ent.ok (moreE lsn epoch) = true := by
  unfold Ent.ok
  simp only [Bool.and_eq_true, decide_eq_true_eq]
  exact ⟨rfl, h1, h2, rfl⟩
theorem moreE_bnd {lsn epoch : Nat} (h1 : lsn < 18446744073709551616) (h2 : epoch < 4294967296) : Ent.Bnd (moreE lsn epoch) :=
  ⟨h1, h2, by show 0 < _; decide, by show 0 < _; decide, (fun c hc => by cases hc), (fun c hc => by cases hc)⟩
/-- Its cells. -/
abbrev moreC (lsn epoch : Nat) : Array Value := evs (moreE lsn epoch) (.slice none 0 0) (.slice none 0 0)

theorem erow_ents {w : World} {B g N c : Nat} {xs : List Value} {es : List Entry} (h : ERow w B (.slice (some ⟨g, 0, none⟩) N c) N xs) (hl : es.length = N)
    (hc : ∀ i (h : i < es.length), ∃ A1 A2 c1 c2, EntV w es[i] A1 A2 c1 c2 ∧ ∀ j, j < 11 → xs[i * 11 + j]? = (evs es[i] (.slice A1 es[i].key.length c1) (.slice A2 es[i].data.length c2))[j]?) :
    Ents w (some ⟨g, 0, none⟩) N es := by
  refine ⟨hl, fun _ => ⟨g, 0, rfl, fun i hi => ?_⟩⟩
  obtain ⟨A1, A2, c1, c2, hV, hx⟩ := hc i hi
  refine ⟨A1, A2, c1, c2, hV, fun j v hv => ?_⟩
  have hj : j < 11 := by
    have := (List.getElem?_eq_some_iff.1 hv).1
    simpa using this
  have h2 := World.ownsRow.cells h (g := g) rfl (i * 11 + j) v (by rw [hx j hj]; simpa using hv)
  rw [add_off, Nat.zero_add] at h2
  simpa using h2

/-- The row with one more. -/
theorem erow_more {w0 w : World} {B g m c lsn epoch : Nat} {news : List Value} {es : List Entry} (h : ERow w B (.slice (some ⟨g, 0, none⟩) (m + 1) c) (m + 1) (news ++ (moreC lsn epoch).toList)) (hm : (es.take m).length = m) (hn : news.length = m * 11)
    (hV : ∀ i (h : i < (es.take m).length), ∃ A1 A2 c1 c2, EntV w0 (es.take m)[i] A1 A2 c1 c2 ∧ ∀ j, j < 11 → news[i * 11 + j]? = (evs (es.take m)[i] (.slice A1 (es.take m)[i].key.length c1) (.slice A2 (es.take m)[i].data.length c2))[j]?)
    (hb : Below w0.heap.size w0 w) (h1 : lsn < 18446744073709551616) (h2 : epoch < 4294967296) : Ents w (some ⟨g, 0, none⟩) (m + 1) (es.take m ++ [moreE lsn epoch]) := by
  refine erow_ents h (by rw [List.length_append, hm]; rfl) fun i hi => ?_
  rw [List.length_append, hm] at hi
  by_cases him : i < m
  · obtain ⟨A1, A2, c1, c2, hE, hx⟩ := hV i (by omega)
    have hg : (es.take m ++ [moreE lsn epoch])[i]'(by rw [List.length_append, hm]; exact hi) = (es.take m)[i]'(by omega) := List.getElem_append_left (by omega)
    rw [hg]
    refine ⟨A1, A2, c1, c2, hE.below hb, fun j hj => ?_⟩
    rw [List.getElem?_append_left (by omega)]
    exact hx j hj
  · have hi2 : i = m := by simp at hi; omega
    have hg : (es.take m ++ [moreE lsn epoch])[i]'(by rw [List.length_append, hm]; exact hi) = moreE lsn epoch := by
      rw [List.getElem_append_right (by omega)]; simp
    rw [hg]
    refine ⟨none, none, 0, 0, EntV.nil w _ rfl rfl (moreE_bnd h1 h2), fun j hj => ?_⟩
    rw [List.getElem?_append_right (by omega), hn, show i * 11 + j - m * 11 = j by omega]
    match j, hj with
    | 0, _ => rfl
    | 1, _ => rfl
    | 2, _ => rfl
    | 3, _ => rfl
    | 4, _ => rfl
    | 5, _ => rfl
    | 6, _ => rfl
    | 7, _ => rfl
    | 8, _ => rfl
    | 9, _ => rfl
    | 10, _ => rfl

end Go.Proofs.Ytccpmalefdnhdaa
