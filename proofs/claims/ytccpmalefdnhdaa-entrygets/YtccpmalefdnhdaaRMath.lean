/-
  The contract of the document's Check: for every entry.
-/
import Derived.Test.YtccpmalefdnhdaaFldA
import Derived.Test.YtccpmalefdnhdaaPlain
import Derived.Test.YtccpmalefdnhdaaRegLaw
namespace Go.Proofs.Ytccpmalefdnhdaa
open Go.RowKit
set_option linter.unusedSimpArgs false
set_option linter.unusedVariables false

theorem plainE_eq (e : Entry) : e = plainE e ↔ ((Ent.hasO e.kind = false → e.order = 0) ∧ (Ent.hasS e.kind = false → e.step = 0 ∧ e.undo = false ∧ e.tri = 0) ∧ (Ent.codes e.kind = 0 → e.code = 0) ∧ (Ent.hasM e.kind = false → e.mark = 0) ∧ (Ent.hasT e.kind = false → e.key = [] ∧ e.data = [])) := by
  obtain ⟨kind, lsn, epoch, order, step, undo, tri, code, mark, key, data⟩ := e
  simp only [plainE, Entry.mk.injEq, true_and]
  cases Ent.hasO kind <;> cases Ent.hasS kind <;> cases Ent.hasM kind <;> cases Ent.hasT kind <;> by_cases hc : Ent.codes kind = 0 <;> simp [hc, and_assoc]
theorem ok_ref (e : Entry) : Ent.ok e = true ↔ (okF e = true ∧ 1 ≤ e.lsn ∧ 1 ≤ e.epoch ∧ e = plainE e) := by
  rw [Ent.ok_iff, plainE_eq]
  by_cases hk : e.kind < 1 ∨ 7 < e.kind
  · constructor
    · intro h; have := h.k1; have := h.k7; omega
    · intro h
      have : okF e = false := by unfold okF; rw [if_neg (by omega), if_neg (by omega), if_neg (by omega), if_neg (by omega), if_neg (by omega), if_neg (by omega), if_neg (by omega)]
      rw [this] at h; cases h.1
  · have hkk : e.kind = 1 ∨ e.kind = 2 ∨ e.kind = 3 ∨ e.kind = 4 ∨ e.kind = 5 ∨ e.kind = 6 ∨ e.kind = 7 := by omega
    have key0 : ∀ l : List Nat, l.length = 0 ↔ l = [] := fun l => List.length_eq_zero_iff
    constructor
    · rintro ⟨k1, k7, hl, he, ho, ht, hs, hc, hm⟩
      unfold Ent.fitO at ho
      unfold Ent.fitT at ht
      unfold Ent.fitS at hs
      unfold Ent.fitC at hc
      unfold Ent.fitM at hm
      unfold okF
      rcases hkk with h | h | h | h | h | h | h
      all_goals
        rw [h] at ho ht hs hc hm ⊢
        simp [Ent.hasO, Ent.hasT, Ent.hasS, Ent.codes, Ent.hasM, key0] at ho ht hs hc hm ⊢
      all_goals
        first
        | (refine ⟨?_, ?_, ?_, ?_⟩ <;> first | omega | exact ⟨hs.1, hs.2.1, hs.2.2⟩ | exact ht | (simp_all; done) | (simp_all; omega))
        | (simp_all; done)
        | (simp_all; omega)
        | omega
    · rintro ⟨h1, hl, he, h2, h3, h4, h5, h6⟩
      unfold okF at h1
      rcases hkk with h | h | h | h | h | h | h
      all_goals
        rw [h] at h1 h2 h3 h4 h5 h6
        simp [Ent.hasO, Ent.hasT, Ent.hasS, Ent.codes, Ent.hasM] at h1 h2 h3 h4 h5 h6
        refine ⟨by omega, by omega, by omega, by omega, ?_, ?_, ?_, ?_, ?_⟩
      all_goals
        first
        | (unfold Ent.fitO; rw [h]; simp [Ent.hasO]; omega)
        | (unfold Ent.fitO; rw [h]; simp [Ent.hasO, h2]; done)
        | (unfold Ent.fitT; rw [h]; simp [Ent.hasT, h6]; done)
        | (unfold Ent.fitT; rw [h]; simp [Ent.hasT]; omega)
        | (unfold Ent.fitS; rw [h]; simp [Ent.hasS, h3]; done)
        | (unfold Ent.fitS; rw [h]; simp [Ent.hasS]; omega)
        | (unfold Ent.fitC; rw [h]; simp [Ent.codes, h4]; done)
        | (unfold Ent.fitC; rw [h]; simp [Ent.codes]; omega)
        | (unfold Ent.fitM; rw [h]; simp [Ent.hasM, h5]; done)
        | (unfold Ent.fitM; rw [h]; simp [Ent.hasM]; omega)

end Go.Proofs.Ytccpmalefdnhdaa
