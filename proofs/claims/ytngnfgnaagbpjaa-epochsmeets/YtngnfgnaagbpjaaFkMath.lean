/-
  Where two tables part: the document's way, entry by entry, and the way by the first start that differs, come to the same.
-/
import Derived.Test.YtngnfgnaagbpjaaEMath
namespace Go.Proofs.Ytngnfgnaagbpjaa

/-- The document's loop: the starts of a are tried, one by one. -/
def fl (a b : Tbl) : Nat → Nat → Nat
  | 0, e => e
  | k + 1, e => if ls a k ≤ fl a b k e ∧ atS b (ls a k) ≠ ep a k then ls a k - 1 else fl a b k e
theorem fl_yes {a b : Tbl} {k e : Nat} (h1 : ls a k ≤ fl a b k e) (h2 : atS b (ls a k) ≠ ep a k) : fl a b (k + 1) e = ls a k - 1 := by rw [fl, if_pos ⟨h1, h2⟩]
theorem fl_no {a b : Tbl} {k e : Nat} (h : ¬ (ls a k ≤ fl a b k e ∧ atS b (ls a k) ≠ ep a k)) : fl a b (k + 1) e = fl a b k e := by rw [fl, if_neg h]
theorem fl_le (a b : Tbl) (k e : Nat) : fl a b k e ≤ e := by
  induction k with
  | zero => exact Nat.le_refl _
  | succ k ih => unfold fl; split <;> omega

theorem cL_at {t : Tbl} (h : isT t) {i : Nat} (hi : i < t.length) : cL t (ls t i) = i + 1 :=
  cL_is (by omega) (fun _ => by rw [Nat.add_sub_cancel]; exact Nat.le_refl _) (fun j h1 h2 => (h.mono (i := i) (j := j) (by omega) h2).2)
theorem atS_at {t : Tbl} (h : isT t) {i : Nat} (hi : i < t.length) : atS t (ls t i) = ep t i := by
  rw [atS_yes h, cL_at h hi, pE_succ]
/-- Ahead of the start at place n, and from the start ahead of it on. -/
theorem cL_ahead {t : Tbl} (h : isT t) {n x : Nat} (hn : n ≤ t.length) (h1 : 0 < n → ls t (n - 1) ≤ x) (h2 : n < t.length → x < ls t n) : cL t x = n :=
  cL_is hn h1 (fun j a b => by have := (h.le (i := n) (j := j) a b).2; have := h2 (by omega); omega)
theorem pE_same {a b : Tbl} {n : Nat} (h : ∀ i, i < n → sameAt a b i) : ∀ m, m ≤ n → pE a m = pE b m ∧ pL a m = pL b m := fun m hm => by
  rcases m with _ | m
  · exact ⟨rfl, rfl⟩
  · rw [pE_succ, pE_succ, pL_succ, pL_succ]; exact h m (by omega)
/-- No start that both have is a place where they part. -/
theorem fl_low {a b : Tbl} (hb : isT b) {n i : Nat} (hC : Com a b n) (hi : i < n) : atS b (ls a i) = ep a i := by
  obtain ⟨h1, h2⟩ := hC.2.2.1 i hi
  rw [h2, h1]
  exact atS_at hb (by have := hC.2.1; omega)
/-- The least of the starts that differ is one. -/
theorem fl_top {a b : Tbl} (ha : isT a) (hb : isT b) {n : Nat} (hC : Com a b n) (hn : n < a.length) (hle : n < b.length → ls a n ≤ ls b n) : atS b (ls a n) ≠ ep a n := by
  obtain ⟨c1, c2, c3, c4⟩ := hC
  have hp := pE_same c3 n (Nat.le_refl _)
  have hk := ha n hn
  unfold okAt at hk
  by_cases hs : n < b.length ∧ ls a n = ls b n
  · rw [hs.2, atS_at hb hs.1]
    intro e
    exact c4 hn hs.1 ⟨e.symm, hs.2⟩
  · rw [atS_yes hb, cL_ahead hb c2 (fun h0 => ?_) (fun h0 => ?_)]
    · rw [← hp.1]; omega
    · have h5 := hp.2
      unfold pL at h5 hk
      rw [if_neg (by omega), if_neg (by omega)] at h5
      rw [if_neg (by omega)] at hk
      omega
    · have := hle h0
      by_cases e : ls a n = ls b n
      · exact absurd ⟨h0, e⟩ hs
      · omega

/-- The loop never goes below what is the same in both. -/
theorem fl_ge {a b : Tbl} (ha : isT a) (hb : isT b) {n : Nat} (hC : Com a b n) (M : Nat) (hM : M ≤ ahead a n) : ∀ k e, k ≤ a.length → M ≤ e → M ≤ fl a b k e := by
  intro k
  induction k with
  | zero => intro e _ h; exact h
  | succ k ih =>
    intro e hk h
    have := ih e (by omega) h
    unfold fl
    split
    · rename_i c
      by_cases hkn : k < n
      · exact absurd (fl_low hb hC hkn) c.2
      · have h3 := (ha.le (i := n) (j := k) (by omega) (by omega)).2
        unfold ahead at hM
        rw [if_neg (by omega)] at hM
        omega
    · exact this
theorem fl_mono {a b : Tbl} (k j e : Nat) (h : k ≤ j) : fl a b j e ≤ fl a b k e := by
  induction j with
  | zero => have : k = 0 := by omega
            subst this; exact Nat.le_refl _
  | succ j ih =>
    by_cases e' : k = j + 1
    · subst e'; exact Nat.le_refl _
    · have h1 := ih (by omega)
      have h2 : fl a b (j + 1) e ≤ fl a b j e := by
        rw [fl]; split <;> omega
      omega
/-- And comes to it. -/
theorem fl_reach {a b : Tbl} (ha : isT a) (hb : isT b) {n : Nat} (hC : Com a b n) (hn : n < a.length) (hle : n < b.length → ls a n ≤ ls b n) (e : Nat) : fl a b a.length e ≤ ls a n - 1 := by
  have h1 := fl_mono (a := a) (b := b) (n + 1) a.length e (by omega)
  have h2 := (ha.pos hn).2
  have h3 : fl a b (n + 1) e ≤ ls a n - 1 := by
    by_cases c : ls a n ≤ fl a b n e
    · rw [fl_yes c (fl_top ha hb hC hn hle)]; exact Nat.le_refl _
    · rw [fl_no (fun h => c h.1)]; omega
  omega

theorem fork_ref (a : Tbl) (la : Nat) (b : Tbl) (lb : Nat) (hla : la ≤ 18446744073709551615) (hlb : lb ≤ 18446744073709551615) (ha : isT a) (hb : isT b) : fl b a b.length (fl a b a.length (min la lb)) = forkS a la b lb := by
  unfold forkS
  rw [if_pos ⟨ha, hb⟩]
  have hC := com_is a b
  generalize com a b = n at *
  have hD := hC.symm
  obtain ⟨M, hM⟩ : ∃ M, min la (min lb (min (ahead a n) (ahead b n))) = M := ⟨_, rfl⟩
  rw [hM]
  have g1 := fl_ge ha hb hC M (by omega) a.length (min la lb) (Nat.le_refl _) (by omega)
  have g2 := fl_ge hb ha hD M (by omega) b.length (fl a b a.length (min la lb)) (Nat.le_refl _) g1
  have l1 := fl_le a b a.length (min la lb)
  have l2 := fl_le b a b.length (fl a b a.length (min la lb))
  have c1 := hC.1
  have c2 := hC.2.1
  have up : fl b a b.length (fl a b a.length (min la lb)) ≤ M := by
    by_cases h1 : n < a.length
    · by_cases h2 : n < b.length
      · have p1 := (ha.pos h1).2
        have p2 := (hb.pos h2).2
        unfold ahead at hM
        rw [if_neg (by omega), if_neg (by omega)] at hM
        by_cases h3 : ls a n ≤ ls b n
        · have := fl_reach ha hb hC h1 (fun _ => h3) (min la lb); omega
        · have := fl_reach hb ha hD h2 (fun _ => by omega) (fl a b a.length (min la lb)); omega
      · unfold ahead at hM
        rw [if_neg (by omega), if_pos (by omega)] at hM
        have := fl_reach ha hb hC h1 (fun h => by omega) (min la lb); omega
    · by_cases h2 : n < b.length
      · unfold ahead at hM
        rw [if_pos (by omega), if_neg (by omega)] at hM
        have := fl_reach hb ha hD h2 (fun h => by omega) (fl a b a.length (min la lb)); omega
      · unfold ahead at hM
        rw [if_pos (by omega), if_pos (by omega)] at hM
        omega
  omega

theorem fork_symm (a : Tbl) (la : Nat) (b : Tbl) (lb : Nat) : forkS b lb a la = forkS a la b lb := by
  unfold forkS
  rw [(com_is b a).uniq (com_is a b).symm]
  by_cases h : isT a ∧ isT b
  · rw [if_pos h, if_pos ⟨h.2, h.1⟩]; omega
  · rw [if_neg h, if_neg (fun k => h ⟨k.2, k.1⟩)]

end Go.Proofs.Ytngnfgnaagbpjaa
