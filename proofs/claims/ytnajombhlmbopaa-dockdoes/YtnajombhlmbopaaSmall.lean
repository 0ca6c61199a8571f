/-
  The contracts of Room, and of all methods of a dock that is not there.
-/
import Derived.Test.YtnajombhlmbopaaStk
namespace Go.Proofs.Ytnajombhlmbopaa
open Go.RowKit Go.Maps
set_option maxRecDepth 100000
set_option linter.unusedVariables false
set_option linter.unusedSimpArgs false

/-- The room of a day that there may not be. -/
def roomI (F : List Int) (d : Int) : Int := if 0 ≤ d ∧ d < (F.length : Int) then fr F d.toNat else 0
theorem roomI_nat (F : List Int) (d : Nat) : roomI F (d : Int) = fr F d := by
  unfold roomI
  split
  · simp
  · unfold fr
    rw [List.getD_eq_getElem?_getD, List.getElem?_eq_none (by omega)]
    rfl
theorem roomI_neg (F : List Int) (d : Int) (h : d < 0) : roomI F d = 0 := by unfold roomI; rw [if_neg (by omega)]
set_option maxHeartbeats 1000000 in
theorem room_same (b : SB) (q : Ss) (d : Int) (w : World) (hA : At w b q) (hl : q.F.length ≤ 1000) : Calls Try.prog 18 #[.pointer (some ⟨b.s, 0, none⟩), .int .i64 d] w fun e w' => e = .returned (.int .i64 (roomI q.F d)) ∧ w = w' := by
  obtain ⟨A, cap, hv⟩ := hA.len
  have hC := hA.c
  rw [hv] at hC
  obtain ⟨c0, c1⟩ := hC.cells2
  clear hC
  by_cases h1 : d < 0
  · have HR := Lib.hid (roomI_neg q.F d h1)
    clear hA hv
    go_enter Try.func18, Try.ntmps18
    go_wp2
    go_ret
    exact ⟨by rw [HR.out]; rfl, rfl⟩
  · have e1 : decide (d < 0) = false := by simpa using h1
    by_cases h2 : (q.F.length : Int) ≤ d
    · have HR : Hid (roomI q.F d = 0) := Lib.hid (by unfold roomI; rw [if_neg (by omega)])
      clear hA hv
      go_enter Try.func18, Try.ntmps18
      go_wp2
      go_ret
      exact ⟨by rw [HR.out]; rfl, rfl⟩
    · have e2 : decide ((q.F.length : Int) ≤ d) = false := by simpa using h2
      obtain ⟨k, rfl⟩ := Int.eq_ofNat_of_zero_le (show 0 ≤ d by omega)
      have hk : k < q.F.length := by omega
      obtain ⟨cap', hv', h3, h4, hc⟩ := hA.row (by omega)
      rw [hv] at hv'
      injection hv' with q1 q2 q3
      subst q1 q3
      obtain ⟨x0, -⟩ := hc k hk
      have HR := Lib.hid (roomI_nat q.F k)
      have hk2 : (k : Int) < (q.F.length : Int) := by omega
      have hk3 : decide ((k : Int) < 0) = false := by simp
      clear hA hv hc q2
      obtain ⟨x, hx⟩ : ∃ x, fr q.F k = x := ⟨_, rfl⟩
      rw [hx] at x0 HR
      clear hx
      go_enter Try.func18, Try.ntmps18
      go_wp2
      go_ret
      exact ⟨by rw [HR.out]; rfl, rfl⟩

theorem room_any (b : SB) (q : Ss) (d : Int) (w : World) (hA : At w b q) (hl : q.F.length ≤ 1000) : Calls Try.prog 18 #[.pointer (some ⟨b.s, 0, none⟩), .int .i64 d] w fun e w' => e = .returned (.int .i64 (roomI q.F d)) ∧ Below w.heap.size w w' :=
  (room_same b q d w hA hl).mono fun e w' ⟨h1, h2⟩ => ⟨h1, h2 ▸ Below.refl _ _⟩

/-! ### a dock that is not there -/
theorem book_nil (o f n : Value) (w : World) : Calls Try.prog 23 #[.pointer none, o, f, n] w fun e w' => e = .returned (.tuple #[.int .i64 0, .int .i64 2]) ∧ w = w' := by
  go_enter Try.func23, Try.ntmps23
  go_wp2
  go_ret2
  exact ⟨rfl, rfl⟩
theorem canc_nil (o : Value) (w : World) : Calls Try.prog 22 #[.pointer none, o] w fun e w' => e = .returned (.int .i64 2) ∧ w = w' := by
  go_enter Try.func22, Try.ntmps22
  go_wp2
  go_ret
  exact ⟨rfl, rfl⟩
theorem room_nil (o : Value) (w : World) : Calls Try.prog 18 #[.pointer none, o] w fun e w' => e = .returned (.int .i64 0) ∧ w = w' := by
  go_enter Try.func18, Try.ntmps18
  go_wp2
  go_ret
  exact ⟨rfl, rfl⟩
theorem bks_nil (w : World) : Calls Try.prog 15 #[.pointer none] w fun e w' => e = .returned (.slice none 0 0) ∧ w = w' := by
  go_enter Try.func15, Try.ntmps15
  go_wp2
  go_ret
  exact ⟨rfl, rfl⟩

end Go.Proofs.Ytnajombhlmbopaa
