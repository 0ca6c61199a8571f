/-
  What NoteNames builds: mathematics alone.
-/
import Derived.Test.YtjjkjppaiejajaaNMath
namespace Go.Proofs.Ytjjkjppaiejajaa
namespace Ent

theorem drop_getD (s : List Nat) (j : Nat) (hj : j < s.length) : s.drop j = s.getD j 0 :: s.drop (j + 1) := by
  rw [List.drop_eq_getElem_cons hj]
  simp [List.getD, hj]
theorem lets_order (k : Int) : (lets k).Sublist alpha := lets_all (fun l => l.Sublist alpha) (by decide) (by decide) (by decide) (by decide) (by decide) (by decide) (by decide) (by decide) (by decide) (by decide) (by decide) k
theorem sub_pass {c d : Nat} {a b : List Nat} (h : (c :: a).Sublist (d :: b)) (hne : d ≠ c) : (c :: a).Sublist b := by
  cases h with
  | cons _ h => exact h
  | cons_cons _ h => exact absurd rfl hne
theorem sub_take {c : Nat} {a b : List Nat} (h : (c :: a).Sublist (c :: b)) : a.Sublist b := List.cons_sublist_cons.1 h

/-- The note that is built of these letters. -/
def nn (k : Int) (ep ls st cd : Nat) (cs : List Nat) : Note :=
  ⟨k, if cs.contains 69 then ep else 0, 0, if cs.contains 76 then ls else 0, 0, 0, if cs.contains 83 then (st : Int) else 0, false, if cs.contains 67 then (cd : Int) else 0, if cs.contains 75 then [107] else [], []⟩
theorem nn_ok (k : Int) (ep ls st cd : Nat) (h1 : 1 ≤ k) (h2 : k ≤ 13) (hs : st < 16) (hc : cd < 256) : ok (nn k ep ls st cd (lets k)) = true := by
  rw [ok_iff]
  refine ⟨h1, h2, ?_, ?_, ?_⟩
  · rw [only_iff]
    intro c hc
    show c ∈ lets k ∨ _
    rcases kinds k h1 h2 with h | h | h | h | h | h | h | h | h | h | h | h | h
    all_goals
      subst h
      rcases alpha_cases hc with h | h | h | h | h | h | h | h | h | h
      all_goals
        subst h
        simp [lets, nn, isZ]
  · rw [inB_iff]
    unfold nn
    simp only
    refine ⟨?_, ?_, ?_, ?_, ?_, by simp⟩
    · split <;> omega
    · split <;> omega
    · split <;> omega
    · split <;> omega
    · split <;> simp
  · unfold lackK
    rw [decide_eq_false_iff_not]
    rintro ⟨hk, hl⟩
    have hk : k = 10 ∨ k = 11 ∨ k = 12 := hk
    rcases hk with h | h | h
    all_goals
      subst h
      simp [nn, lets] at hl
theorem contains_snoc (cs : List Nat) (c d : Nat) : (cs ++ [c]).contains d = (cs.contains d || decide (c = d)) := by
  rw [Bool.eq_iff_iff, List.contains_iff_mem, Bool.or_eq_true, List.contains_iff_mem, decide_eq_true_iff, List.mem_append, List.mem_singleton]
  exact ⟨fun h => h.imp id Eq.symm, fun h => h.imp id Eq.symm⟩
theorem nn_E (k : Int) (ep ls st cd : Nat) (cs : List Nat) : nn k ep ls st cd (cs ++ [69]) = { nn k ep ls st cd cs with epoch := ep } := by simp only [nn, contains_snoc]; simp
theorem nn_L (k : Int) (ep ls st cd : Nat) (cs : List Nat) : nn k ep ls st cd (cs ++ [76]) = { nn k ep ls st cd cs with lsn := ls } := by simp only [nn, contains_snoc]; simp
theorem nn_S (k : Int) (ep ls st cd : Nat) (cs : List Nat) : nn k ep ls st cd (cs ++ [83]) = { nn k ep ls st cd cs with step := (st : Int) } := by simp only [nn, contains_snoc]; simp
theorem nn_C (k : Int) (ep ls st cd : Nat) (cs : List Nat) : nn k ep ls st cd (cs ++ [67]) = { nn k ep ls st cd cs with code := (cd : Int) } := by simp only [nn, contains_snoc]; simp
theorem nn_K (k : Int) (ep ls st cd : Nat) (cs : List Nat) : nn k ep ls st cd (cs ++ [75]) = { nn k ep ls st cd cs with key := [107] } := by simp only [nn, contains_snoc]; simp
theorem nn_o (k : Int) (ep ls st cd : Nat) (cs : List Nat) (c : Nat) (h : c = 80 ∨ c = 84 ∨ c = 79 ∨ c = 85 ∨ c = 68) : nn k ep ls st cd (cs ++ [c]) = nn k ep ls st cd cs := by
  simp only [nn, contains_snoc]
  rcases h with h | h | h | h | h <;> subst h <;> simp

end Ent
end Go.Proofs.Ytjjkjppaiejajaa
