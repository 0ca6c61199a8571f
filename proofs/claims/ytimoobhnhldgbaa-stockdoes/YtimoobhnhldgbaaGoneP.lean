/-
  What an act does to what is gone, and what an order holds of a kind.
-/
import Derived.Test.YtimoobhnhldgbaaKnown
namespace Go.Proofs.Ytimoobhnhldgbaa
open Go.Proofs Go.RowKit
set_option maxRecDepth 100000
set_option linter.unusedVariables false

/-- How many of a kind an order holds. -/
def heldOf (H : List Hd) (o : Nat) (x : List UInt8) : Int := match findH H o with
  | none => 0
  | some y => if y.n = x then y.k else 0
def lastF (o : Nat) (x : List UInt8) (a : Int) (h : Hd) : Int := if h.o = o ∧ h.n = x then h.k else a
def lastH (o : Nat) (x : List UInt8) (L : List Hd) : Int := L.foldl (lastF o x) 0
theorem lastH_snoc (o : Nat) (x : List UInt8) (L : List Hd) (h : Hd) : lastH o x (L ++ [h]) = lastF o x (lastH o x L) h := by
  unfold lastH; rw [List.foldl_append]; rfl
theorem last_none {o : Nat} {x : List UInt8} : ∀ (L : List Hd) (a : Int), (∀ h ∈ L, h.o ≠ o) → L.foldl (lastF o x) a = a
  | [], a, _ => rfl
  | h :: r, a, hn => by
    rw [List.foldl_cons, show lastF o x a h = a from if_neg (fun h' => hn h (List.mem_cons_self ..) h'.1)]
    exact last_none r a fun y hy => hn y (List.mem_cons_of_mem _ hy)
theorem last_all {o : Nat} {x : List UInt8} : ∀ (H : List Hd) (a : Int), HSort H → H.foldl (lastF o x) a = match findH H o with | none => a | some y => if y.n = x then y.k else a
  | [], a, _ => rfl
  | h :: r, a, hs => by
    obtain ⟨h1, h2⟩ := List.pairwise_cons.1 hs
    rw [List.foldl_cons]
    by_cases e : h.o = o
    · have hf : findH (h :: r) o = some h := by unfold findH; rw [List.find?_cons, show (h.o == o) = true from by simpa using e]
      rw [hf, last_none r _ (fun y hy => by have := h1 y hy; omega)]
      unfold lastF
      by_cases e2 : h.n = x
      · simp [e, e2]
      · simp [e, e2]
    · have hf : findH (h :: r) o = findH r o := by unfold findH; rw [List.find?_cons, show (h.o == o) = false from by simpa using e]
      rw [hf, show lastF o x a h = a from if_neg (fun h' => e h'.1)]
      exact last_all r a h2
theorem last_held {H : List Hd} (hs : HSort H) (o : Nat) (x : List UInt8) : lastH o x H = heldOf H o x := by
  unfold lastH heldOf
  rw [last_all H 0 hs]

theorem goneN_upd {K : List Kd} (hs : KSort K) (k' : Kd) {k : Kd} (hk : findK K k'.n = some k) (x : List UInt8) : goneN (updK K k') x = if x = k'.n then k'.g else goneN K x := by
  unfold goneN
  rw [findK_upd hs]
  split
  · rename_i e; subst e; rw [hk]; rfl
  · rfl
theorem gone_hold {q : Ss} (hI : Inv q) (o : Nat) (x : List UInt8) (n : Int) (y : List UInt8) : goneN (holdS q o x n).K y = goneN q.K y := by
  cases hv : holdV q o x n
  · rw [holdS_no hv]
  · obtain ⟨-, -, -, k, hk, -⟩ := holdV_iff.1 hv
    obtain ⟨hm, rfl⟩ := findK_some hk
    rw [holdS_yes hv hk]
    show goneN (updK q.K ⟨k.n, k.f - n, k.g⟩) y = _
    rw [goneN_upd hI.ks ⟨k.n, k.f - n, k.g⟩ (k := k) hk]
    split
    · rename_i e; dsimp only at e ⊢; subst e; unfold goneN; rw [hk]; rfl
    · rfl
theorem gone_end {q : Ss} (hI : Inv q) (o : Nat) (b : Bool) (y : List UInt8) : goneN (endS q o b).K y = if b then goneN q.K y + heldOf q.H o y else goneN q.K y := by
  cases hf : findH q.H o with
  | none =>
    rw [endS_no hf]
    unfold heldOf
    rw [hf]
    simp
  | some h =>
    obtain ⟨hh, -⟩ := findH_some hf
    obtain ⟨k, hk, hm, e⟩ := hI.kn hh
    rw [endS_yes hf hk]
    show goneN (updK q.K (backK k h.k b)) y = _
    have e2 : (backK k h.k b).n = h.n := by rw [backK_n, e]
    rw [goneN_upd hI.ks (backK k h.k b) (k := k) (by rw [e2]; exact hk), e2]
    unfold heldOf
    rw [hf]
    dsimp only
    by_cases e3 : y = h.n
    · subst e3
      have hg : goneN q.K h.n = k.g := by unfold goneN; rw [hk]; rfl
      rw [if_pos rfl, if_pos rfl, hg]
      cases b <;> rfl
    · rw [if_neg e3, if_neg (show ¬ h.n = y from fun h' => e3 h'.symm)]
      cases b
      · rfl
      · show goneN q.K y = goneN q.K y + 0; omega
/-- What an act ships. -/
def shipsB (t : Int) : Bool := decide (t < 0) || decide (2 < t)
theorem gone_act {q : Ss} (hI : Inv q) (a : Ac) (y : List UInt8) : goneN (actS q a).K y = if (shipsB a.t && actV q a) = true then goneN q.K y + heldOf q.H a.o y else goneN q.K y := by
  unfold actS actV
  by_cases h1 : a.t = 0 ∨ a.t = 1
  · have : shipsB a.t = false := by unfold shipsB; rcases h1 with h | h <;> rw [h] <;> rfl
    rw [if_pos h1, if_pos h1, this, gone_hold hI]
    simp
  · rw [if_neg h1, if_neg h1]
    by_cases h2 : a.t = 2
    · have : shipsB a.t = false := by unfold shipsB; rw [h2]; rfl
      rw [if_pos h2, this, gone_end hI]
      simp
    · have : shipsB a.t = true := by
        unfold shipsB
        rw [Bool.or_eq_true, decide_eq_true_iff, decide_eq_true_iff]
        omega
      rw [if_neg h2, this, gone_end hI, Bool.true_and, if_pos rfl]
      unfold endV heldOf
      cases findH q.H a.o <;> simp
theorem goneN_bd {q : Ss} (hI : Inv q) (x : List UInt8) : 0 ≤ goneN q.K x ∧ goneN q.K x ≤ 1000000 := by
  unfold goneN
  cases hf : findK q.K x with
  | none => exact ⟨Int.le_refl _, by decide⟩
  | some k =>
    obtain ⟨hm, rfl⟩ := findK_some hf
    have h1 := hI.kf k hm
    have h2 := held_nonneg (fun z hz => (hI.hh z hz).1) k.n
    exact ⟨h1.2.1, by show k.g ≤ _; omega⟩
theorem heldOf_bd {q : Ss} (hI : Inv q) (o : Nat) (x : List UInt8) : 0 ≤ heldOf q.H o x ∧ heldOf q.H o x ≤ 1000000 := by
  unfold heldOf
  cases hf : findH q.H o with
  | none => dsimp only; omega
  | some y =>
    obtain ⟨hh, -⟩ := findH_some hf
    have h1 := (hI.hh y hh).1
    have h2 := (hI.kb hh).1
    dsimp only
    split <;> omega
theorem last_bd {q : Ss} (hI : Inv q) (o : Nat) (x : List UInt8) (m : Nat) : 0 ≤ lastH o x (q.H.take m) ∧ lastH o x (q.H.take m) ≤ 1000000 := by
  have : ∀ (L : List Hd) (a : Int), (∀ y ∈ L, 1 ≤ y.k ∧ y.k ≤ 1000000) → 0 ≤ a → a ≤ 1000000 → 0 ≤ L.foldl (lastF o x) a ∧ L.foldl (lastF o x) a ≤ 1000000 := by
    intro L
    induction L with
    | nil => intro a _ h1 h2; exact ⟨h1, h2⟩
    | cons y r ih =>
      intro a hL h1 h2
      rw [List.foldl_cons]
      have hy := hL y (List.mem_cons_self ..)
      refine ih _ (fun z hz => hL z (List.mem_cons_of_mem _ hz)) ?_ ?_
      · unfold lastF; split <;> omega
      · unfold lastF; split <;> omega
  exact this _ 0 (fun y hy => ⟨(hI.hh y (List.mem_of_mem_take hy)).1, (hI.kb (List.mem_of_mem_take hy)).1⟩) (Int.le_refl _) (by decide)
end Go.Proofs.Ytimoobhnhldgbaa
