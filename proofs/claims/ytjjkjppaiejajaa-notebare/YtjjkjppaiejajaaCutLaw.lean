/-
  A region whose order is fixed, cut in two: what is known of the first part's end is all that the second part asks.
-/
import Derived.Test.YtjjkjppaiejajaaBase
import Derived.Deep.Cut
namespace Go.Proofs.Ytjjkjppaiejajaa
open Go.RowKit

section
variable {P : Program} {ops : Array Oper} {Q : Exit → Act → World → Prop}

theorem oper_cut {o : Oper} {R K K' : Act → World → Prop} {a : Act} {w : World} (hk : ∀ a w, K a w → K' a w) (h : o.wp P a w K (Exit.then R Q)) : o.wp P a w K' Q := by
  unfold Oper.wp at *
  generalize (execOp a.eval o).run P w = r at *
  cases r with
  | ok n w' =>
    cases n <;> simp only [Oper.upon] at h ⊢ <;>
      first
        | exact hk _ _ h
        | exact Calls.mono h (fun e w'' he => by cases e <;> first | exact hk _ _ he | exact he)
        | exact Rows.mono h (fun _ _ he => hk _ _ he)
  | halt x w' => cases x <;> simp only [Oper.upon] at h ⊢ <;> exact h

theorem wpList_cut (R : Act → World → Prop) : ∀ (l1 l2 : List Oper) (a : Act) (w : World), wpList P ops (Exit.then R Q) l1 a w → (∀ a w, R a w → wpList P ops Q l2 a w) → wpList P ops Q (l1 ++ l2) a w
  | [], l2, a, w, h, k => k a w h
  | o :: l1, l2, a, w, h, k => by
    rw [List.cons_append]
    unfold wpList at h ⊢
    by_cases hw : Region.wanted o (yielded ops a.tmps) = true
    · rw [if_pos hw] at h ⊢
      rcases h with h | ⟨h1, h2⟩
      · exact .inl (oper_cut (fun a w hh => wpList_cut R l1 l2 a w hh k) h)
      · exact .inr ⟨h1, h2⟩
    · rw [if_neg hw] at h ⊢
      exact wpList_cut R l1 l2 _ w h k
/-- The same, by the number of operations. -/
theorem wpList_cutAt (n : Nat) (R : Act → World → Prop) {l : List Oper} {a : Act} {w : World} (h : wpList P ops (Exit.then R Q) (l.take n) a w) (k : ∀ a w, R a w → wpList P ops Q (l.drop n) a w) : wpList P ops Q l a w := by
  have := wpList_cut R (l.take n) (l.drop n) a w h k
  rwa [List.take_append_drop] at this
end

end Go.Proofs.Ytjjkjppaiejajaa
