/-
  What the end of an epoch is; that two journals have the same epochs up to where they part, and not behind it; a table that is cut, and added to.
-/
import Derived.Test.YtngnfgnaagbpjaaFkMath
namespace Go.Proofs.Ytngnfgnaagbpjaa

theorem atS_is {t : Tbl} (h : isT t) {n x : Nat} (hn : n ≤ t.length) (h1 : 0 < n → ls t (n - 1) ≤ x) (h2 : n < t.length → x < ls t n) : cL t x = n ∧ atS t x = pE t n := by
  have := cL_ahead h hn h1 h2
  exact ⟨this, by rw [atS_yes h, this]⟩

/-- Where End ends: as many starts lie there as are of that epoch, or a lesser one, and begun. -/
theorem end_at {t : Tbl} (h : isT t) {last e m : Nat} (hl : last ≤ 18446744073709551615) (hm : m = min (cE t e) (cL t last)) : cL t (endS t last e) = m ∧ atS t (endS t last e) = pE t m := by
  have a := cE_le t e
  have b := cL_le t last
  have he := endS_is h last e hl m hm
  refine atS_is h (by omega) (fun h0 => ?_) (fun h0 => ?_)
  · have c := cL_lo h (l := last) (i := m - 1) (by omega)
    rw [he, if_neg (by omega)]
    unfold ahead
    split
    · omega
    · have := (h.mono (i := m - 1) (j := m) (by omega) (by omega)).2
      omega
  · rw [he]
    have := (h.pos h0).2
    split
    · omega
    · unfold ahead
      rw [if_neg (by omega)]
      omega
theorem end_le {t : Tbl} (h : isT t) {last e : Nat} (hl : last ≤ 18446744073709551615) : endS t last e ≤ last := by
  rw [endS_is h last e hl _ rfl]
  split <;> omega
theorem end_in {t : Tbl} (h : isT t) {last e : Nat} (hl : last ≤ 18446744073709551615) (h0 : 0 < endS t last e) : atS t (endS t last e) ≠ 0 ∧ atS t (endS t last e) ≤ e := by
  obtain ⟨m, hm⟩ : ∃ m, m = min (cE t e) (cL t last) := ⟨_, rfl⟩
  have a := cE_le t e
  have b := cL_le t last
  have he := endS_is h last e hl m hm
  have hp : 0 < m := by
    refine Nat.pos_of_ne_zero (fun q => ?_)
    rw [he, if_pos q] at h0; omega
  rw [(end_at h hl hm).2]
  obtain ⟨r, rfl⟩ : ∃ r, m = r + 1 := ⟨m - 1, by omega⟩
  rw [pE_succ]
  have := (h.pos (i := r) (by omega)).1
  have := cE_lo h (l := e) (i := r) (by omega)
  omega
theorem end_next {t : Tbl} (h : isT t) {last e : Nat} (hl : last ≤ 18446744073709551615) (h0 : 0 < endS t last e) (h1 : endS t last e < last) : e < atS t (endS t last e + 1) := by
  obtain ⟨m, hm⟩ : ∃ m, m = min (cE t e) (cL t last) := ⟨_, rfl⟩
  have a := cE_le t e
  have b := cL_le t last
  have he := endS_is h last e hl m hm
  have hp : m ≠ 0 := fun q => by rw [he, if_pos q] at h0; omega
  rw [if_neg hp] at he
  have hml : m < t.length := by
    refine Nat.lt_of_le_of_ne (by omega) (fun q => ?_)
    unfold ahead at he
    rw [if_pos q] at he
    omega
  have hpos := (h.pos hml).2
  unfold ahead at he
  rw [if_neg (by omega)] at he
  rw [show endS t last e + 1 = ls t m from by omega, atS_at h hml]
  refine cE_hi (Nat.le_of_not_lt fun q => ?_) hml
  have := cL_hi (t := t) (l := last) (i := m) (by omega) hml
  omega
theorem end_none {t : Tbl} (h : isT t) {last e : Nat} (hl : last ≤ 18446744073709551615) (h0 : endS t last e = 0) (hn : 0 < t.length) : ¬ (ls t 0 ≤ last ∧ ep t 0 ≤ e) := by
  rintro ⟨h1, h2⟩
  have c1 : 0 < cE t e := Nat.pos_of_ne_zero fun q => by have := cE_hi (t := t) (l := e) (i := 0) (by omega) hn; omega
  have c2 : 0 < cL t last := Nat.pos_of_ne_zero fun q => by have := cL_hi (t := t) (l := last) (i := 0) (by omega) hn; omega
  have a := cE_le t e
  have b := cL_le t last
  have := (end_at h hl (m := min (cE t e) (cL t last)) rfl).1
  rw [h0] at this
  have d := cL_lo h (l := 0) (i := 0) (by omega)
  have := (h.pos hn).2
  omega

/-- Up to where they part both have the same. -/
theorem part_cnt {a b : Tbl} (ha : isT a) (hb : isT b) {c k : Nat} (hC : Com a b c) (h1 : k ≤ ahead a c) (h2 : k ≤ ahead b c) : cL a k = cL b k ∧ cL a k ≤ c := by
  obtain ⟨c1, c2, c3, c4⟩ := hC
  have la : ∀ i, c ≤ i → i < a.length → k < ls a i := fun i hi hn => by
    have p := (ha.pos (i := c) (by omega)).2
    have q := (ha.le (i := c) (j := i) hi hn).2
    unfold ahead at h1
    rw [if_neg (by omega)] at h1
    omega
  have lb : ∀ i, c ≤ i → i < b.length → k < ls b i := fun i hi hn => by
    have p := (hb.pos (i := c) (by omega)).2
    have q := (hb.le (i := c) (j := i) hi hn).2
    unfold ahead at h2
    rw [if_neg (by omega)] at h2
    omega
  have hle : cL a k ≤ c := Nat.le_of_not_lt fun q => by
    have := cL_le a k
    have := cL_lo ha (l := k) (i := c) (by omega)
    have := la c (Nat.le_refl _) (by omega)
    omega
  refine ⟨(cL_is (by omega) (fun h0 => ?_) (fun i p q => ?_)).symm, hle⟩
  · rw [← (c3 (cL a k - 1) (by omega)).2]
    exact cL_lo ha (by omega)
  · by_cases hi : i < c
    · rw [← (c3 i hi).2]
      exact cL_hi p (by omega)
    · exact lb i (by omega) q
theorem part_at {a b : Tbl} (ha : isT a) (hb : isT b) {c k : Nat} (hC : Com a b c) (h1 : k ≤ ahead a c) (h2 : k ≤ ahead b c) : atS a k = atS b k := by
  obtain ⟨e1, e2⟩ := part_cnt ha hb hC h1 h2
  rw [atS_yes ha, atS_yes hb, ← e1]
  exact (pE_same hC.2.2.1 _ e2).1
theorem take_same {a b : Tbl} {c m : Nat} (hC : Com a b c) (hm : m ≤ c) : a.take m = b.take m := by
  obtain ⟨c1, c2, c3, c4⟩ := hC
  refine List.ext_getElem (by rw [List.length_take, List.length_take]; omega) (fun i h1 h2 => ?_)
  rw [List.length_take] at h1
  obtain ⟨e, l⟩ := c3 i (by omega)
  rw [List.getElem_take, List.getElem_take]
  unfold ep at e
  unfold ls at l
  simp only [List.getD, List.getElem?_eq_getElem (show i < a.length by omega), List.getElem?_eq_getElem (show i < b.length by omega), Option.getD_some] at e l
  exact Prod.ext e l
theorem part_cut {a b : Tbl} (ha : isT a) (hb : isT b) {c k : Nat} (hC : Com a b c) (h1 : k ≤ ahead a c) (h2 : k ≤ ahead b c) : cutS a k = cutS b k := by
  obtain ⟨e1, e2⟩ := part_cnt ha hb hC h1 h2
  unfold cutS
  rw [if_pos ha, if_pos hb, ← e1]
  exact take_same hC e2
theorem fork_is {a b : Tbl} (ha : isT a) (hb : isT b) (la lb : Nat) : forkS a la b lb = min la (min lb (min (ahead a (com a b)) (ahead b (com a b)))) := by
  unfold forkS; rw [if_pos ⟨ha, hb⟩]
theorem fork_le {a b : Tbl} (ha : isT a) (hb : isT b) (la lb : Nat) : forkS a la b lb ≤ la ∧ forkS a la b lb ≤ lb ∧ forkS a la b lb ≤ ahead a (com a b) ∧ forkS a la b lb ≤ ahead b (com a b) := by
  rw [fork_is ha hb]; omega
theorem com_self (a : Tbl) : com a a = a.length := (com_is a a).uniq ⟨Nat.le_refl _, Nat.le_refl _, fun _ _ => ⟨rfl, rfl⟩, fun h => by omega⟩
theorem fork_self {a : Tbl} (ha : isT a) (la : Nat) (hl : la ≤ 18446744073709551615) : forkS a la a la = la := by
  rw [fork_is ha ha, com_self]
  unfold ahead
  rw [if_pos rfl]; omega
theorem fork_apart {a b : Tbl} (ha : isT a) (hb : isT b) (la lb : Nat) (hl : la ≤ 18446744073709551615) (h1 : forkS a la b lb < la) (h2 : forkS a la b lb < lb) : atS a (forkS a la b lb + 1) ≠ atS b (forkS a la b lb + 1) := by
  have hC := com_is a b
  have hF := fork_is ha hb la lb
  generalize com a b = c at *
  generalize forkS a la b lb = n at *
  have hD := hC.symm
  have c1 := hC.1
  have c2 := hC.2.1
  by_cases hab : ahead a c ≤ ahead b c
  · have hca : c < a.length := Nat.lt_of_le_of_ne c1 (fun q => by
      have e : ahead a c = 18446744073709551615 := by unfold ahead; rw [if_pos q]
      omega)
    have p := (ha.pos hca).2
    have e1 : ahead a c = ls a c - 1 := by unfold ahead; rw [if_neg (by omega)]
    rw [show n + 1 = ls a c from by omega, atS_at ha hca]
    refine (fl_top ha hb hC hca (fun q => ?_)).symm
    have p2 := (hb.pos q).2
    unfold ahead at hab
    rw [if_neg (by omega), if_neg (by omega)] at hab
    omega
  · have hcb : c < b.length := Nat.lt_of_le_of_ne c2 (fun q => by
      have e : ahead b c = 18446744073709551615 := by unfold ahead; rw [if_pos q]
      omega)
    have p := (hb.pos hcb).2
    have e1 : ahead b c = ls b c - 1 := by unfold ahead; rw [if_neg (by omega)]
    rw [show n + 1 = ls b c from by omega, atS_at hb hcb]
    refine fl_top hb ha hD hcb (fun q => ?_)
    have p2 := (ha.pos q).2
    unfold ahead at hab
    rw [if_neg (by omega), if_neg (by omega)] at hab
    omega

/-- A table's beginning is a table. -/
theorem ep_take' (t : Tbl) (m i : Nat) (h : i < m) : ep (t.take m) i = ep t i := by unfold ep; simp [List.getD, h]
theorem ls_take' (t : Tbl) (m i : Nat) (h : i < m) : ls (t.take m) i = ls t i := by unfold ls; simp [List.getD, h]
theorem pE_take (t : Tbl) (m i : Nat) (h : i ≤ m) : pE (t.take m) i = pE t i := by
  rcases i with _ | i
  · rfl
  · rw [pE_succ, pE_succ, ep_take' t m i (by omega)]
theorem pL_take (t : Tbl) (m i : Nat) (h : i ≤ m) : pL (t.take m) i = pL t i := by
  rcases i with _ | i
  · rfl
  · rw [pL_succ, pL_succ, ls_take' t m i (by omega)]
theorem isT.take {t : Tbl} (h : isT t) (m : Nat) : isT (t.take m) := fun k hk => by
  rw [List.length_take] at hk
  have := h k (by omega)
  unfold okAt at this ⊢
  rw [pE_take t m k (by omega), pL_take t m k (by omega), ep_take' t m k (by omega), ls_take' t m k (by omega)]
  exact this
/-- Behind its last start nothing is added that does not rise. -/
theorem add_not {t : Tbl} {k e l : Nat} (hk : k < t.length) (h : e ≤ ep t k ∨ l ≤ ls t k) : ¬ isT (t.take (k + 1) ++ [(e, l)]) := fun H => by
  have hl : (t.take (k + 1)).length = k + 1 := by rw [List.length_take]; omega
  have := H (k + 1) (by rw [List.length_append, hl]; simp)
  unfold okAt at this
  rw [pE_succ, pL_succ] at this
  have e1 : (t.take (k + 1) ++ [(e, l)]).getD k (0, 0) = t.getD k (0, 0) := by
    simp [List.getD, List.getElem?_append_left (show k < (t.take (k + 1)).length by omega)]
  have e2 : (t.take (k + 1) ++ [(e, l)]).getD (k + 1) (0, 0) = (e, l) := by
    simp [List.getD, hl]
  unfold ep ls at this h
  rw [e1, e2] at this
  simp only at this
  omega

end Go.Proofs.Ytngnfgnaagbpjaa
