/-
  The contract of SameKept.
-/
import Derived.Test.YtfcfejmammohpaaChk
namespace Go.Proofs.Ytfcfejmammohpaa
open Go.RowKit
set_option maxRecDepth 100000
set_option linter.unusedVariables false
set_option linter.unusedSimpArgs false

/-- The same kept steps? -/
def sameK (x y : Kp) : Bool := (x.o == y.o) && ((x.s == y.s) && ((x.u == y.u) && (sameB x.a y.a && ((x.c == y.c) && sameB x.r y.r))))
theorem sameK_iff (x y : Kp) : sameK x y = true ↔ x = y := by
  unfold sameK sameB
  simp only [Bool.and_eq_true, beq_iff_eq, decide_eq_true_eq]
  constructor
  · rintro ⟨h1, h2, h3, h4, h5, h6⟩
    cases x; cases y
    simp only at h1 h2 h3 h4 h5 h6
    subst h1 h2 h3 h4 h5 h6
    rfl
  · rintro rfl; simp
theorem sameK_self (x : Kp) : sameK x x = true := (sameK_iff x x).2 rfl
theorem sameK_ne {x y : Kp} (h : x ≠ y) : sameK x y = false := by
  cases hh : sameK x y
  · rfl
  · exact absurd ((sameK_iff x y).1 hh) h
set_option maxHeartbeats 4000000 in
theorem sameKept_any (x y : Kx) (w : World) (hx : KT w x) (hy : KT w y) :
    Calls Try.prog 20 #[.agg (kc x), .agg (kc y)] w fun e w' => e = .returned (.bool (sameK x.k y.k)) ∧ Below w.heap.size w w' := by
  have HB := Lib.hid (below2 w (.cells (kc x) 34) (.cells (kc y) 34))
  obtain ⟨A1, c1, e1, g1, _⟩ := (hx.below HB.out).a
  obtain ⟨A2, c2, e2, g2, _⟩ := (hx.below HB.out).r
  obtain ⟨B1, b1, k1, h1, _⟩ := (hy.below HB.out).a
  obtain ⟨B2, b2, k2, h2, _⟩ := (hy.below HB.out).r
  have r1 := run_str g1 c1
  have r2 := run_str h1 b1
  have r3 := run_str g2 c2
  have r4 := run_str h2 b2
  have s1 := str_eq x.k.a y.k.a g1.2.1 h1.2.1
  have s2 := str_eq x.k.r y.k.r g2.2.1 h2.2.1
  have HSK : Hid (sameK x.k y.k = ((x.k.o == y.k.o) && ((x.k.s == y.k.s) && ((x.k.u == y.k.u) && (sameB x.k.a y.k.a && ((x.k.c == y.k.c) && sameB x.k.r y.k.r)))))) := Lib.hid rfl
  rw [HSK.out]
  clear hx hy g1 g2 h1 h2 HSK
  obtain ⟨⟨xo, xs, xu, xa, xc, xr⟩, xK, xD⟩ := x
  obtain ⟨⟨yo, ys, yu, ya, yc, yr⟩, yK, yD⟩ := y
  dsimp only at *
  subst e1 e2 k1 k2
  generalize str xa = Sa at *
  generalize str xr = Sr at *
  generalize str ya = Ta at *
  generalize str yr = Tr at *
  generalize sameB xa ya = qa at *
  generalize sameB xr yr = qr at *
  generalize xa.length = n1 at *
  generalize xr.length = n2 at *
  generalize ya.length = m1 at *
  generalize yr.length = m2 at *
  by_cases t1 : xo = yo
  · have d1 : ((xo : Int) == (yo : Int)) = true := by simp; omega
    rw [show (xo == yo) = true from by simpa using t1, Bool.true_and]
    clear t1
    by_cases t2 : xs = ys
    · have d2 : (xs == ys) = true := by simpa using t2
      rw [d2, Bool.true_and]
      clear t2
      by_cases t3 : xu = yu
      · have d3 : (xu == yu) = true := by simpa using t3
        rw [d3, Bool.true_and]
        clear t3
        cases qa
        · rw [Bool.false_and]
          go_enter Try.func20, Try.ntmps20
          go_wp2
          go_ret
          exact ⟨rfl, HB.out⟩
        · rw [Bool.true_and]
          by_cases t5 : xc = yc
          · have d5 : (xc == yc) = true := by simpa using t5
            rw [d5, Bool.true_and]
            clear t5
            go_enter Try.func20, Try.ntmps20
            go_wp2
            go_ret
            exact ⟨rfl, HB.out⟩
          · have d5 : (xc == yc) = false := by simpa using t5
            rw [d5, Bool.false_and]
            clear t5
            go_enter Try.func20, Try.ntmps20
            go_wp2
            go_ret
            exact ⟨rfl, HB.out⟩
      · have d3 : (xu == yu) = false := by simpa using t3
        rw [d3, Bool.false_and]
        clear t3
        go_enter Try.func20, Try.ntmps20
        go_wp2
        go_ret
        exact ⟨rfl, HB.out⟩
    · have d2 : (xs == ys) = false := by simpa using t2
      rw [d2, Bool.false_and]
      clear t2
      go_enter Try.func20, Try.ntmps20
      go_wp2
      go_ret
      exact ⟨rfl, HB.out⟩
  · have d1 : ((xo : Int) == (yo : Int)) = false := by simp; omega
    rw [show (xo == yo) = false from by simpa using t1, Bool.false_and]
    clear t1
    go_enter Try.func20, Try.ntmps20
    go_wp2
    go_ret
    exact ⟨rfl, HB.out⟩

end Go.Proofs.Ytfcfejmammohpaa
