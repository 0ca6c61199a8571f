/-
  The contracts of Capture, Void, Refund, and of all methods of a purse that is not there.
-/
import Derived.Test.YtlgdjmmhdfpfeaaMov0
import Derived.Test.YtlgdjmmhdfpfeaaMov1
import Derived.Test.YtlgdjmmhdfpfeaaMov2
import Derived.Test.YtlgdjmmhdfpfeaaAuth
namespace Go.Proofs.Ytlgdjmmhdfpfeaa
open Go.RowKit
set_option maxRecDepth 100000
set_option linter.unusedVariables false
set_option linter.unusedSimpArgs false

theorem capture_any (b : SB) (q : Ss) (o : Nat) (w : World) (hA : At w b q) (hI : Inv q) (ho : o < 4294967296) (hl : q.H.length ≤ 1000) :
    Calls Try.prog 26 #[.pointer (some ⟨b.s, 0, none⟩), .int .u32 (o : Int)] w (MovPost w b q o 0) := by
  have C := Lib.hid (capture_mov b q o w hA hI ho hl)
  clear hA hI
  go_enter Try.func26, Try.ntmps26
  go_wp2_with fail
  with_reducible refine C.out.mono ?_
  rintro e w' ⟨rfl, h⟩
  have HH := Lib.hid h
  clear h
  go_wp2
  go_ret
  exact ⟨rfl, HH.out⟩
theorem void_any (b : SB) (q : Ss) (o : Nat) (w : World) (hA : At w b q) (hI : Inv q) (ho : o < 4294967296) (hl : q.H.length ≤ 1000) :
    Calls Try.prog 27 #[.pointer (some ⟨b.s, 0, none⟩), .int .u32 (o : Int)] w (MovPost w b q o 1) := by
  have C := Lib.hid (void_mov b q o w hA hI ho hl)
  clear hA hI
  go_enter Try.func27, Try.ntmps27
  go_wp2_with fail
  with_reducible refine C.out.mono ?_
  rintro e w' ⟨rfl, h⟩
  have HH := Lib.hid h
  clear h
  go_wp2
  go_ret
  exact ⟨rfl, HH.out⟩
theorem refund_any (b : SB) (q : Ss) (o : Nat) (w : World) (hA : At w b q) (hI : Inv q) (ho : o < 4294967296) (hl : q.H.length ≤ 1000) :
    Calls Try.prog 25 #[.pointer (some ⟨b.s, 0, none⟩), .int .u32 (o : Int)] w (MovPost w b q o 2) := by
  have C := Lib.hid (refund_mov b q o w hA hI ho hl)
  clear hA hI
  go_enter Try.func25, Try.ntmps25
  go_wp2_with fail
  with_reducible refine C.out.mono ?_
  rintro e w' ⟨rfl, h⟩
  have HH := Lib.hid h
  clear h
  go_wp2
  go_ret
  exact ⟨rfl, HH.out⟩

/-! ### a purse that is not there -/
theorem auth_nil (o x n : Value) (w : World) : Calls Try.prog 24 #[.pointer none, o, x, n] w fun e w' => e = .returned (.int .i64 2) ∧ w = w' := by
  go_enter Try.func24, Try.ntmps24
  go_wp2
  go_ret
  exact ⟨rfl, rfl⟩
theorem move_nil (o s t f : Value) (w : World) : Calls Try.prog 40 #[.pointer none, o, s, t, f] w fun e w' => e = .returned (.int .i64 2) ∧ w = w' := by
  go_enter Try.func40, Try.ntmps40
  go_wp2
  go_ret
  exact ⟨rfl, rfl⟩
theorem capture_nil (o : Value) (w : World) : Calls Try.prog 26 #[.pointer none, o] w fun e w' => e = .returned (.int .i64 2) ∧ w = w' := by
  have C := move_nil o (.int .i64 1) (.int .i64 2) (.func (.func 42) #[] #[]) w
  go_enter Try.func26, Try.ntmps26
  go_wp2_with fail
  with_reducible refine C.mono ?_
  rintro e w' ⟨rfl, rfl⟩
  go_wp2
  go_ret
  exact ⟨rfl, rfl⟩
theorem void_nil (o : Value) (w : World) : Calls Try.prog 27 #[.pointer none, o] w fun e w' => e = .returned (.int .i64 2) ∧ w = w' := by
  have C := move_nil o (.int .i64 1) (.int .i64 3) (.func (.func 43) #[] #[]) w
  go_enter Try.func27, Try.ntmps27
  go_wp2_with fail
  with_reducible refine C.mono ?_
  rintro e w' ⟨rfl, rfl⟩
  go_wp2
  go_ret
  exact ⟨rfl, rfl⟩
theorem refund_nil (o : Value) (w : World) : Calls Try.prog 25 #[.pointer none, o] w fun e w' => e = .returned (.int .i64 2) ∧ w = w' := by
  have C := move_nil o (.int .i64 2) (.int .i64 3) (.func (.func 41) #[] #[]) w
  go_enter Try.func25, Try.ntmps25
  go_wp2_with fail
  with_reducible refine C.mono ?_
  rintro e w' ⟨rfl, rfl⟩
  go_wp2
  go_ret
  exact ⟨rfl, rfl⟩
theorem accts_nil (w : World) : Calls Try.prog 16 #[.pointer none] w fun e w' => e = .returned (.slice none 0 0) ∧ w = w' := by
  go_enter Try.func16, Try.ntmps16
  go_wp2
  go_ret
  exact ⟨rfl, rfl⟩
theorem pays_nil (w : World) : Calls Try.prog 17 #[.pointer none] w fun e w' => e = .returned (.slice none 0 0) ∧ w = w' := by
  go_enter Try.func17, Try.ntmps17
  go_wp2
  go_ret
  exact ⟨rfl, rfl⟩
theorem taken_nil (w : World) : Calls Try.prog 22 #[.pointer none] w fun e w' => e = .returned (.int .i64 0) ∧ w = w' := by
  go_enter Try.func22, Try.ntmps22
  go_wp2
  go_ret
  exact ⟨rfl, rfl⟩

end Go.Proofs.Ytlgdjmmhdfpfeaa
