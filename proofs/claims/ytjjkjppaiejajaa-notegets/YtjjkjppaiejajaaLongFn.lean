/-
  The contract of 'long'.
-/
import Derived.Test.YtjjkjppaiejajaaKnown
namespace Go.Proofs.Ytjjkjppaiejajaa
open Go.RowKit

def longE (e : Note) : Bool := decide (1000 < e.key.length ∨ 1000 < e.data.length)

set_option maxHeartbeats 400000 in
theorem long_any (e : Note) (A1 A2 : Option Addr) (c1 c2 : Nat) (w : World) :
    Calls Try.prog 10 #[.agg (evs e (.slice A1 e.key.length c1) (.slice A2 e.data.length c2))] w fun x w' => x = .returned (.bool (longE e)) ∧ Below w.heap.size w w' := by
  have b1 := fun o => (Below.refl w.heap.size w).alloc (Nat.le_refl _) o
  unfold longE
  obtain ⟨n, hn⟩ : ∃ n, e.key.length = n := ⟨_, rfl⟩
  obtain ⟨k, hk⟩ : ∃ k, e.data.length = k := ⟨_, rfl⟩
  rw [hn, hk]
  by_cases h1 : 1000 < n
  · go_enter Try.func10, Try.ntmps10
    go_wp2
    go_ret
    refine ⟨ret_bool ?_, b1 _⟩
    first | (rw [Bool.eq_iff_iff]; done) | (rw [Bool.eq_iff_iff]; simp; done) | (rw [Bool.eq_iff_iff]; simp; omega)
  · go_enter Try.func10, Try.ntmps10
    go_wp2
    go_ret
    refine ⟨ret_bool ?_, b1 _⟩
    first | (rw [Bool.eq_iff_iff]; done) | (rw [Bool.eq_iff_iff]; simp; done) | (rw [Bool.eq_iff_iff]; simp; omega)

end Go.Proofs.Ytjjkjppaiejajaa
