/-
  The contract of same.
-/
import Derived.Test.YtfcfejmammohpaaCallM
namespace Go.Proofs.Ytfcfejmammohpaa
open Go.RowKit
set_option maxRecDepth 100000
set_option linter.unusedVariables false
set_option linter.unusedSimpArgs false

theorem beq_cast {a b : Nat} (h : a = b) : ((a : Int) == (b : Int)) = true := by simp [h]
theorem bne_cast {a b : Nat} (h : ¬ a = b) : ((a : Int) == (b : Int)) = false := by rw [beq_eq_false_iff_ne]; omega
theorem bne_int {a b : Int} (h : ¬ a = b) : (a == b) = false := by rw [beq_eq_false_iff_ne]; exact h
theorem bne_bool {a b : Bool} (h : ¬ a = b) : (a == b) = false := by rw [beq_eq_false_iff_ne]; exact h
set_option maxHeartbeats 4000000 in
theorem same30 (o1 : Nat) (s1 : Int) (u1 : Bool) (A1 : Option Addr) (n1 c1 : Nat) (q1 : Int) (B1 : Option Addr) (m1 d1 : Nat) (o2 : Nat) (s2 : Int) (u2 : Bool) (A2 : Option Addr) (n2 c2 : Nat) (q2 : Int) (B2 : Option Addr) (m2 d2 : Nat) (w : World) (b : Bool) (hb : b = decide (o1 = o2 ∧ s1 = s2 ∧ u1 = u2)) :
    Calls Try.prog 30 #[.agg #[.int .u32 (o1 : Int), .int .i64 s1, .bool u1, .slice A1 n1 c1, .int .i64 q1, .slice B1 m1 d1], .agg #[.int .u32 (o2 : Int), .int .i64 s2, .bool u2, .slice A2 n2 c2, .int .i64 q2, .slice B2 m2 d2]] w fun x w' => x = .returned (.bool b) ∧ Below w.heap.size w w' := by
  have BB := Lib.hid (below2 w (.cells #[.int .u32 (o1 : Int), .int .i64 s1, .bool u1, .slice A1 n1 c1, .int .i64 q1, .slice B1 m1 d1] 34) (.cells #[.int .u32 (o2 : Int), .int .i64 s2, .bool u2, .slice A2 n2 c2, .int .i64 q2, .slice B2 m2 d2] 34))
  obtain ⟨c0, c1', c2', c3, c4, c5⟩ := ((Lies.made w 34 #[.int .u32 (o1 : Int), .int .i64 s1, .bool u1, .slice A1 n1 c1, .int .i64 q1, .slice B1 m1 d1]).alloc (.cells #[.int .u32 (o2 : Int), .int .i64 s2, .bool u2, .slice A2 n2 c2, .int .i64 q2, .slice B2 m2 d2] 34)).cells6
  obtain ⟨e0, e1', e2', e3, e4, e5⟩ := (Lies.made2 w (.cells #[.int .u32 (o1 : Int), .int .i64 s1, .bool u1, .slice A1 n1 c1, .int .i64 q1, .slice B1 m1 d1] 34) 34 #[.int .u32 (o2 : Int), .int .i64 s2, .bool u2, .slice A2 n2 c2, .int .i64 q2, .slice B2 m2 d2]).cells6
  by_cases h1 : o1 = o2
  · have e1 := beq_cast h1
    by_cases h2 : s1 = s2
    · by_cases h3 : u1 = u2
      · rw [decide_eq_true ⟨h1, h2, h3⟩] at hb
        have f2 : (s1 == s2) = true := by simp [h2]
        have f3 : (u1 == u2) = true := by simp [h3]
        clear h1 h2 h3
        subst hb
        go_enter Try.func30, Try.ntmps30
        go_wp2
        go_ret
        exact ⟨rfl, BB.out⟩
      · rw [decide_eq_false (fun h => h3 h.2.2)] at hb
        have f2 : (s1 == s2) = true := by simp [h2]
        have f3 := bne_bool h3
        clear h1 h2 h3
        subst hb
        go_enter Try.func30, Try.ntmps30
        go_wp2
        go_ret
        exact ⟨rfl, BB.out⟩
    · rw [decide_eq_false (fun h => h2 h.2.1)] at hb
      have f2 := bne_int h2
      clear h1 h2
      subst hb
      go_enter Try.func30, Try.ntmps30
      go_wp2
      go_ret
      exact ⟨rfl, BB.out⟩
  · rw [decide_eq_false (fun h => h1 h.1)] at hb
    have e1 := bne_cast h1
    clear h1
    subst hb
    go_enter Try.func30, Try.ntmps30
    go_wp2
    go_ret
    exact ⟨rfl, BB.out⟩
/-- A loop that leaves all as it was. -/
def OcR (w1 : World) (m : Nat) (i : Value) (wr : World) : Prop := ∃ j : Nat, j ≤ m ∧ i = .int .i64 (j : Int) ∧ Below w1.heap.size w1 wr

end Go.Proofs.Ytfcfejmammohpaa
