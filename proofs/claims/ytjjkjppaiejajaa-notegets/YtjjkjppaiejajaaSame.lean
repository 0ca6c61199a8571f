/-
  The contract of Same.
-/
import Derived.Test.YtjjkjppaiejajaaLists
namespace Go.Proofs.Ytjjkjppaiejajaa
open Go.RowKit


theorem str_toList (a : List Nat) : (str a).toList = a.map UInt8.ofNat := by
  rw [ByteArray.toList_eq]
  simp [str, strOfNums]

theorem str_inj (a b : List Nat) (ha : ∀ c ∈ a, c < 256) (hb : ∀ c ∈ b, c < 256) (h : (str a).toList = (str b).toList) : a = b := by
  rw [str_toList, str_toList] at h
  have e : ∀ (l : List Nat), (∀ c ∈ l, c < 256) → (l.map UInt8.ofNat).map UInt8.toNat = l := by
    intro l hl
    rw [List.map_map]
    conv => rhs; rw [← List.map_id l]
    apply List.map_congr_left
    intro c hc
    simp
    exact hl c hc
  rw [← e a ha, ← e b hb, h]

/-- The same bytes? -/
def sameB (a b : List Nat) : Bool := decide (a = b)
theorem sameB_self (a : List Nat) : sameB a a = true := by simp [sameB]
theorem sameB_ne {a b : List Nat} (h : a ≠ b) : sameB a b = false := by simp [sameB, h]
theorem str_eq (a b : List Nat) (ha : ∀ c ∈ a, c < 256) (hb : ∀ c ∈ b, c < 256) : ((str a).toList == (str b).toList) = sameB a b := by
  by_cases h : a = b
  · subst h; rw [sameB_self]; simp
  · rw [sameB_ne h, beq_eq_false_iff_ne]
    exact fun hh => h (str_inj a b ha hb hh)

set_option maxHeartbeats 400000 in
theorem same_any (a b : Option Addr) (n m c d : Nat) (la lb : List Nat) (w : World) (hA : Bys w a n la) (hB : Bys w b m lb) :
    Calls Try.prog 20 #[.slice a n c, .slice b m d] w fun e w' => e = .returned (.bool (sameB la lb)) ∧ w = w' := by
  have r1 := run_str hA c
  have r2 := run_str hB d
  have r3 := str_eq la lb hA.2.1 hB.2.1
  clear hA hB
  go_enter Try.func20, Try.ntmps20
  go_wp2
  go_ret
  exact ⟨rfl, rfl⟩


end Go.Proofs.Ytjjkjppaiejajaa
