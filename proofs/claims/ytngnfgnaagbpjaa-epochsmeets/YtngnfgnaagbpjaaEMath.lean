/-
  Tables of epochs, plainly: what they are, how many starts lie ahead of an entry, where two tables part.
-/
namespace Go.Proofs.Ytngnfgnaagbpjaa

abbrev Tbl := List (Nat × Nat)
def ep (t : Tbl) (i : Nat) : Nat := (t.getD i (0, 0)).1
def ls (t : Tbl) (i : Nat) : Nat := (t.getD i (0, 0)).2
/-- The start ahead of place k, or noughts. -/
def pE (t : Tbl) (k : Nat) : Nat := if k = 0 then 0 else ep t (k - 1)
def pL (t : Tbl) (k : Nat) : Nat := if k = 0 then 0 else ls t (k - 1)
def okAt (t : Tbl) (k : Nat) : Prop := pE t k < ep t k ∧ pL t k < ls t k
instance (t : Tbl) (k : Nat) : Decidable (okAt t k) := by unfold okAt; exact inferInstance
/-- Are they a table? -/
def isT (t : Tbl) : Prop := ∀ k, k < t.length → okAt t k
instance (t : Tbl) : Decidable (isT t) := by unfold isT; exact inferInstance
def chk (t : Tbl) : Nat := if isT t then 0 else 60

theorem pE_succ (t : Tbl) (k : Nat) : pE t (k + 1) = ep t k := by unfold pE; rw [if_neg (by omega), Nat.add_sub_cancel]
theorem pL_succ (t : Tbl) (k : Nat) : pL t (k + 1) = ls t k := by unfold pL; rw [if_neg (by omega), Nat.add_sub_cancel]
theorem pE_zero (t : Tbl) : pE t 0 = 0 := rfl
theorem pL_zero (t : Tbl) : pL t 0 = 0 := rfl
theorem chk_all {t : Tbl} {k : Nat} (hk : k = t.length) (h : ∀ j, j < k → okAt t j) : chk t = 0 := by
  subst hk; unfold chk; rw [if_pos (show isT t from h)]
theorem chk_stop {t : Tbl} {k : Nat} (hk : k < t.length) (h : ¬ okAt t k) : chk t = 60 := by
  unfold chk; rw [if_neg (fun H => h (H k hk))]
theorem chk_cases (t : Tbl) : (isT t ∧ chk t = 0) ∨ (¬ isT t ∧ chk t = 60) := by
  unfold chk
  by_cases h : isT t
  · exact .inl ⟨h, by rw [if_pos h]⟩
  · exact .inr ⟨h, by rw [if_neg h]⟩

theorem isT.step {t : Tbl} (h : isT t) {i : Nat} (hi : i + 1 < t.length) : ep t i < ep t (i + 1) ∧ ls t i < ls t (i + 1) := by
  have := h (i + 1) hi
  unfold okAt at this
  rwa [pE_succ, pL_succ] at this
theorem isT.mono {t : Tbl} (h : isT t) : ∀ {j i : Nat}, i < j → j < t.length → ep t i < ep t j ∧ ls t i < ls t j := by
  intro j
  induction j with
  | zero => intro i hi; omega
  | succ j ih =>
    intro i hi hj
    have s := h.step hj
    by_cases e : i = j
    · subst e; exact s
    · have := ih (i := i) (by omega) (by omega); omega
theorem isT.pos {t : Tbl} (h : isT t) {i : Nat} (hi : i < t.length) : 1 ≤ ep t i ∧ 1 ≤ ls t i := by
  have := h i hi
  unfold okAt at this; omega
theorem isT.le {t : Tbl} (h : isT t) {i j : Nat} (hi : i ≤ j) (hj : j < t.length) : ep t i ≤ ep t j ∧ ls t i ≤ ls t j := by
  by_cases e : i = j
  · subst e; exact ⟨Nat.le_refl _, Nat.le_refl _⟩
  · have := h.mono (i := i) (j := j) (by omega) hj; omega

/-- One more than the last place below n at which f holds, or 0. -/
def cnt (f : Nat → Bool) : Nat → Nat
  | 0 => 0
  | n + 1 => if f n then n + 1 else cnt f n
theorem cnt_le (f : Nat → Bool) (n : Nat) : cnt f n ≤ n := by
  induction n with
  | zero => exact Nat.le_refl _
  | succ n ih => unfold cnt; split <;> omega
theorem cnt_yes {f : Nat → Bool} {n : Nat} (h : f n = true) : cnt f (n + 1) = n + 1 := by rw [cnt, if_pos h]
theorem cnt_no {f : Nat → Bool} {n : Nat} (h : f n = false) : cnt f (n + 1) = cnt f n := by rw [cnt, if_neg (by rw [h]; decide)]
theorem cnt_last (f : Nat → Bool) (n : Nat) (h : 0 < cnt f n) : f (cnt f n - 1) = true := by
  induction n with
  | zero => simp [cnt] at h
  | succ n ih =>
    by_cases hn : f n = true
    · rw [cnt_yes hn]; simpa using hn
    · rw [cnt_no (by simpa using hn)] at h ⊢; exact ih h
theorem cnt_behind (f : Nat → Bool) (n : Nat) : ∀ i, cnt f n ≤ i → i < n → f i = false := by
  induction n with
  | zero => intro i _ hi; omega
  | succ n ih =>
    intro i h1 h2
    by_cases hn : f n = true
    · rw [cnt_yes hn] at h1; omega
    · rw [cnt_no (by simpa using hn)] at h1
      by_cases e : i = n
      · subst e; simpa using hn
      · exact ih i h1 (by omega)
/-- What the count is, where f holds up to a place and not from it on. -/
theorem cnt_is {f : Nat → Bool} {n m : Nat} (hm : m ≤ n) (h1 : 0 < m → f (m - 1) = true) (h2 : ∀ i, m ≤ i → i < n → f i = false) : cnt f n = m := by
  have a := cnt_le f n
  by_cases h : cnt f n < m
  · have := cnt_behind f n (m - 1) (by omega) (by omega)
    rw [h1 (by omega)] at this; cases this
  · by_cases h' : m < cnt f n
    · have := cnt_last f n (by omega)
      rw [h2 _ (by omega) (by omega)] at this; cases this
    · omega
theorem cnt_congr {f g : Nat → Bool} {n : Nat} (h : ∀ i, i < n → f i = g i) : cnt f n = cnt g n := by
  induction n with
  | zero => rfl
  | succ n ih =>
    have e := h n (by omega)
    have ih := ih (fun i hi => h i (by omega))
    rw [cnt, cnt, e, ih]

/-- Lsns, Epochs that are not greater. -/
def fL (t : Tbl) (l : Nat) (i : Nat) : Bool := decide (ls t i ≤ l)
def fE (t : Tbl) (e : Nat) (i : Nat) : Bool := decide (ep t i ≤ e)
def cL (t : Tbl) (l : Nat) : Nat := cnt (fL t l) t.length
def cE (t : Tbl) (e : Nat) : Nat := cnt (fE t e) t.length
theorem cL_le (t : Tbl) (l : Nat) : cL t l ≤ t.length := cnt_le _ _
theorem cE_le (t : Tbl) (l : Nat) : cE t l ≤ t.length := cnt_le _ _
theorem cL_lo {t : Tbl} (h : isT t) {l i : Nat} (hi : i < cL t l) : ls t i ≤ l := by
  have a := cL_le t l
  have b := cnt_last (fL t l) t.length (by unfold cL at hi; omega)
  have b : ls t (cL t l - 1) ≤ l := by simpa [fL, cL] using b
  have := h.le (i := i) (j := cL t l - 1) (by omega) (by omega)
  omega
theorem cL_hi {t : Tbl} {l i : Nat} (hi : cL t l ≤ i) (hn : i < t.length) : l < ls t i := by
  have := cnt_behind (fL t l) t.length i hi hn
  simpa [fL] using this
theorem cE_lo {t : Tbl} (h : isT t) {l i : Nat} (hi : i < cE t l) : ep t i ≤ l := by
  have a := cE_le t l
  have b := cnt_last (fE t l) t.length (by unfold cE at hi; omega)
  have b : ep t (cE t l - 1) ≤ l := by simpa [fE, cE] using b
  have := h.le (i := i) (j := cE t l - 1) (by omega) (by omega)
  omega
theorem cE_hi {t : Tbl} {l i : Nat} (hi : cE t l ≤ i) (hn : i < t.length) : l < ep t i := by
  have := cnt_behind (fE t l) t.length i hi hn
  simpa [fE] using this
theorem cL_is {t : Tbl} {l m : Nat} (hm : m ≤ t.length) (h1 : 0 < m → ls t (m - 1) ≤ l) (h2 : ∀ i, m ≤ i → i < t.length → l < ls t i) : cL t l = m :=
  cnt_is hm (fun h => by simpa [fL] using h1 h) (fun i a b => by simpa [fL] using h2 i a b)
theorem cE_is {t : Tbl} {l m : Nat} (hm : m ≤ t.length) (h1 : 0 < m → ep t (m - 1) ≤ l) (h2 : ∀ i, m ≤ i → i < t.length → l < ep t i) : cE t l = m :=
  cnt_is hm (fun h => by simpa [fE] using h1 h) (fun i a b => by simpa [fE] using h2 i a b)
/-- What a binary search finds: m starts are less; is the next one the same? -/
theorem cL_found {t : Tbl} (h : isT t) {l m : Nat} (hm : m ≤ t.length) (h1 : ∀ i, i < m → ls t i < l) (h2 : ∀ i, m ≤ i → i < t.length → l ≤ ls t i) :
    cL t l = if m < t.length ∧ ls t m = l then m + 1 else m := by
  split
  · rename_i c
    refine cL_is (by omega) (fun _ => by rw [Nat.add_sub_cancel]; omega) (fun i a b => ?_)
    have := h.mono (i := m) (j := i) (by omega) b; omega
  · rename_i c
    refine cL_is hm (fun _ => by have := h1 (m - 1) (by omega); omega) (fun i a b => ?_)
    have e := h2 i a b
    have f := h.le (i := m) (j := i) a b
    have g := h2 m (by omega) (by omega)
    refine Nat.lt_of_le_of_ne e (fun q => c ⟨by omega, by omega⟩)
theorem cE_found {t : Tbl} (h : isT t) {l m : Nat} (hm : m ≤ t.length) (h1 : ∀ i, i < m → ep t i < l) (h2 : ∀ i, m ≤ i → i < t.length → l ≤ ep t i) :
    cE t l = if m < t.length ∧ ep t m = l then m + 1 else m := by
  split
  · rename_i c
    refine cE_is (by omega) (fun _ => by rw [Nat.add_sub_cancel]; omega) (fun i a b => ?_)
    have := h.mono (i := m) (j := i) (by omega) b; omega
  · rename_i c
    refine cE_is hm (fun _ => by have := h1 (m - 1) (by omega); omega) (fun i a b => ?_)
    have e := h2 i a b
    have f := h.le (i := m) (j := i) a b
    have g := h2 m (by omega) (by omega)
    refine Nat.lt_of_le_of_ne e (fun q => c ⟨by omega, by omega⟩)

/-- The epoch of an entry. -/
def atS (t : Tbl) (l : Nat) : Nat := if isT t then pE t (cL t l) else 0
theorem atS_no {t : Tbl} (h : ¬ isT t) (l : Nat) : atS t l = 0 := by unfold atS; rw [if_neg h]
theorem atS_yes {t : Tbl} (h : isT t) (l : Nat) : atS t l = pE t (cL t l) := by unfold atS; rw [if_pos h]

/-- The end of an epoch. -/
def fEL (t : Tbl) (last e : Nat) (i : Nat) : Bool := decide (ep t i ≤ e ∧ ls t i ≤ last)
def endV (t : Tbl) (last m : Nat) : Nat := if m = 0 then 0 else if m < t.length ∧ ls t m ≤ last then ls t m - 1 else last
def endS (t : Tbl) (last e : Nat) : Nat := if isT t then endV t last (cnt (fEL t last e) t.length) else 0
theorem cEL_min {t : Tbl} (h : isT t) (last e : Nat) : cnt (fEL t last e) t.length = min (cE t e) (cL t last) := by
  have a := cE_le t e
  have b := cL_le t last
  refine cnt_is (by omega) (fun h0 => ?_) (fun i h1 h2 => ?_)
  · have := cE_lo h (l := e) (i := min (cE t e) (cL t last) - 1) (by omega)
    have := cL_lo h (l := last) (i := min (cE t e) (cL t last) - 1) (by omega)
    simp [fEL]; omega
  · by_cases c : cE t e ≤ i
    · have := cE_hi c h2; simp [fEL]; omega
    · have := cL_hi (t := t) (l := last) (i := i) (by omega) h2; simp [fEL]; omega
/-- The entry ahead of the start at place n, or the greatest number. -/
def ahead (t : Tbl) (n : Nat) : Nat := if n = t.length then 18446744073709551615 else ls t n - 1
theorem endS_is {t : Tbl} (h : isT t) (last e : Nat) (hl : last ≤ 18446744073709551615) (n : Nat) (hn : n = min (cE t e) (cL t last)) : endS t last e = if n = 0 then 0 else min last (ahead t n) := by
  unfold endS endV ahead
  have a := cE_le t e
  have b := cL_le t last
  rw [if_pos h, cEL_min h, ← hn]
  by_cases h0 : n = 0
  · rw [if_pos h0, if_pos h0]
  · rw [if_neg h0, if_neg h0]
    by_cases h1 : n = t.length
    · rw [if_neg (by omega), if_pos h1]; omega
    · have := h.pos (i := n) (by omega)
      rw [if_neg h1]
      split <;> omega
theorem endS_no {t : Tbl} (h : ¬ isT t) (last e : Nat) : endS t last e = 0 := by unfold endS; rw [if_neg h]

/-- The first n starts are the same, and the next ones are not, or one ends there. -/
def sameAt (a b : Tbl) (i : Nat) : Prop := ep a i = ep b i ∧ ls a i = ls b i
instance (a b : Tbl) (i : Nat) : Decidable (sameAt a b i) := by unfold sameAt; exact inferInstance
def Com (a b : Tbl) (n : Nat) : Prop := n ≤ a.length ∧ n ≤ b.length ∧ (∀ i, i < n → sameAt a b i) ∧ (n < a.length → n < b.length → ¬ sameAt a b n)
theorem Com.uniq {a b : Tbl} {n m : Nat} (h : Com a b n) (k : Com a b m) : n = m := by
  obtain ⟨h1, h2, h3, h4⟩ := h
  obtain ⟨k1, k2, k3, k4⟩ := k
  by_cases e : n < m
  · exact absurd (k3 n e) (h4 (by omega) (by omega))
  · by_cases f : m < n
    · exact absurd (h3 m f) (k4 (by omega) (by omega))
    · omega
theorem Com.symm {a b : Tbl} {n : Nat} (h : Com a b n) : Com b a n := by
  obtain ⟨h1, h2, h3, h4⟩ := h
  exact ⟨h2, h1, fun i hi => ⟨(h3 i hi).1.symm, (h3 i hi).2.symm⟩, fun p q r => h4 q p ⟨r.1.symm, r.2.symm⟩⟩
def comF (a b : Tbl) : Nat → Nat → Nat
  | 0, i => i
  | f + 1, i => if i < a.length ∧ i < b.length ∧ sameAt a b i then comF a b f (i + 1) else i
theorem comF_is {a b : Tbl} : ∀ (f i : Nat), a.length ≤ i + f → i ≤ a.length → i ≤ b.length → (∀ j, j < i → sameAt a b j) → Com a b (comF a b f i) := by
  intro f
  induction f with
  | zero => intro i h1 h2 h3 h4; exact ⟨h2, h3, h4, fun h => by unfold comF at h; omega⟩
  | succ f ih =>
    intro i h1 h2 h3 h4
    unfold comF
    split
    · rename_i c
      refine ih (i + 1) (by omega) (by omega) (by omega) (fun j hj => ?_)
      by_cases e : j = i
      · subst e; exact c.2.2
      · exact h4 j (by omega)
    · rename_i c
      exact ⟨h2, h3, h4, fun p q r => c ⟨p, q, r⟩⟩
def com (a b : Tbl) : Nat := comF a b a.length 0
theorem com_is (a b : Tbl) : Com a b (com a b) := comF_is _ _ (by omega) (by omega) (by omega) (fun j hj => by omega)

/-- Where two journals part. -/
def forkS (a : Tbl) (la : Nat) (b : Tbl) (lb : Nat) : Nat := if isT a ∧ isT b then min la (min lb (min (ahead a (com a b)) (ahead b (com a b)))) else 0

/-- Starts up to an entry; one more. -/
def cutS (t : Tbl) (l : Nat) : Tbl := if isT t then t.take (cL t l) else []
def addS (t : Tbl) (s : Nat × Nat) : Tbl := if isT (t ++ [s]) then t ++ [s] else []

end Go.Proofs.Ytngnfgnaagbpjaa
