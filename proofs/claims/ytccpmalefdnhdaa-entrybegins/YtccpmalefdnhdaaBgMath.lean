/-
  Rows of entries, cut and made longer: mathematics alone.
-/
import Derived.Test.YtccpmalefdnhdaaEntVal
namespace Go.Proofs.Ytccpmalefdnhdaa
namespace Ent

theorem good_take {es : List Entry} {k j : Nat} (h : good es j) (hj : j < k) : good (es.take k) j := by
  obtain ⟨e, h1, h2, h3⟩ := h
  refine ⟨e, by rw [List.getElem?_take, if_pos hj]; exact h1, h2, fun h0 => ?_⟩
  obtain ⟨b, h4, h5⟩ := h3 h0
  exact ⟨b, by rw [List.getElem?_take, if_pos (by omega)]; exact h4, h5⟩
theorem good_of_take {es : List Entry} {k j : Nat} (h : good (es.take k) j) (hj : j < k) : good es j := by
  obtain ⟨e, h1, h2, h3⟩ := h
  rw [List.getElem?_take, if_pos hj] at h1
  refine ⟨e, h1, h2, fun h0 => ?_⟩
  obtain ⟨b, h4, h5⟩ := h3 h0
  rw [List.getElem?_take, if_pos (by omega)] at h4
  exact ⟨b, h4, h5⟩
theorem good_drop {es : List Entry} {k j : Nat} (h : good es (k + j)) : good (es.drop k) j := by
  obtain ⟨e, h1, h2, h3⟩ := h
  refine ⟨e, by rw [List.getElem?_drop]; exact h1, h2, fun h0 => ?_⟩
  obtain ⟨b, h4, h5⟩ := h3 (by omega)
  exact ⟨b, by rw [List.getElem?_drop, show k + (j - 1) = k + j - 1 by omega]; exact h4, h5⟩
theorem good_append {es xs : List Entry} {j : Nat} (h : good es j) (hj : j < es.length) : good (es ++ xs) j := by
  obtain ⟨e, h1, h2, h3⟩ := h
  refine ⟨e, by rw [List.getElem?_append_left hj]; exact h1, h2, fun h0 => ?_⟩
  obtain ⟨b, h4, h5⟩ := h3 h0
  exact ⟨b, by rw [List.getElem?_append_left (by omega)]; exact h4, h5⟩
theorem row_take {es : List Entry} {n k : Nat} (h : RowIs es n) (hk : k ≤ n) : RowIs (es.take k) k := by
  have := h.1
  exact ⟨by rw [List.length_take]; omega, fun j hj => good_take (h.2.1 j (by omega)) hj, fun hh => by rw [List.length_take] at hh; omega⟩
theorem row_mid {es : List Entry} {n k : Nat} (h : RowIs es n) (hk : k ≤ n) : RowIs ((es.take n).drop k) (n - k) := by
  have := h.1
  exact ⟨by rw [List.length_drop, List.length_take]; omega, fun j hj => good_drop (good_take (h.2.1 (k + j) (by omega)) (by omega)), fun hh => by rw [List.length_drop, List.length_take] at hh; omega⟩
theorem row_next {es : List Entry} {n : Nat} (h : RowIs es n) (hn : n < es.length) : RowIs (es.take (n + 1)) n :=
  ⟨by rw [List.length_take]; omega, fun j hj => good_take (h.2.1 j hj) (by omega), fun _ hg => h.2.2 hn (good_of_take hg (by omega))⟩
theorem row_more {es : List Entry} {n : Nat} (h : RowIs es n) (l x : Entry) (hl : es[n - 1]? = some l) (hn : 0 < n) (hx : ok x = true) (hlx : nxt l x) : RowIs (es.take n ++ [x]) (n + 1) := by
  have hle := h.1
  have htl : (es.take n).length = n := by rw [List.length_take]; omega
  refine ⟨by rw [List.length_append, htl]; simp, fun j hj => ?_, fun hh => by rw [List.length_append, htl] at hh; simp at hh⟩
  by_cases hjn : j < n
  · exact good_append (good_take (h.2.1 j hjn) hjn) (by rw [htl]; exact hjn)
  · have : j = n := by omega
    subst this
    refine ⟨x, ?_, hx, fun _ => ⟨l, ?_, hlx⟩⟩
    · rw [List.getElem?_append_right (by rw [htl]; exact Nat.le_refl _), htl, Nat.sub_self]; rfl
    · rw [List.getElem?_append_left (by rw [htl]; omega), List.getElem?_take, if_pos (by omega)]; exact hl

end Ent

/-- The first ones of a slice of entries. -/
theorem Ents.front {w : World} {a : Option Addr} {n : Nat} {es : List Entry} (h : Ents w a n es) (k : Nat) (hk : k ≤ n) : Ents w a k (es.take k) := by
  have hl := h.1
  refine ⟨by rw [List.length_take]; omega, fun h0 => ?_⟩
  obtain ⟨b, off, h1, h2⟩ := h.2 (by omega)
  refine ⟨b, off, h1, fun i hi => ?_⟩
  rw [List.getElem_take]
  exact h2 i _
/-- What is left behind them. -/
theorem Ents.cut {w : World} {b off n : Nat} {es : List Entry} (h : Ents w (some ⟨b, off, none⟩) n es) (k : Nat) (hk : k ≤ n) : Ents w (some ⟨b, off + k * 11, none⟩) (n - k) (es.drop k) := by
  have hl := h.1
  refine ⟨by rw [List.length_drop]; omega, fun h0 => ?_⟩
  obtain ⟨b', off', h1, h2⟩ := h.2 (by omega)
  injection h1 with h1
  injection h1 with e1 e2 _
  subst e1 e2
  refine ⟨b, off + k * 11, rfl, fun i hi => ?_⟩
  rw [List.getElem_drop]
  rw [List.length_drop] at hi
  have := h2 (k + i) (by omega)
  rw [Nat.add_assoc, ← Nat.add_mul]
  exact this

end Go.Proofs.Ytccpmalefdnhdaa
