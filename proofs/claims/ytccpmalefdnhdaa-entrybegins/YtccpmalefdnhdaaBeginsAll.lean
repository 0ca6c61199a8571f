/-
  The walk of EntryBegins for no entries, and for all.
-/
import Derived.Test.YtccpmalefdnhdaaBeginsWalk
namespace Go.Proofs.Ytccpmalefdnhdaa
open Go.RowKit
set_option linter.unusedVariables false

theorem ents_zero (w : World) (a : Option Addr) : Ents w a 0 [] := ⟨rfl, fun h => by omega⟩
theorem row_zero (a : Option Addr) (cap : Nat) (w : World) : Calls Try.prog 26 #[.slice a 0 cap] w fun x w' => x = .returned (.tuple #[.int .i64 0, .int .i64 0]) ∧ Below w.heap.size w w' :=
  (row_any a 0 cap [] w (ents_zero w a) (small_len _ (by omega))).mono fun x w' h => by
    obtain ⟨m, h1, h2, h3⟩ := h
    obtain rfl : m = 0 := by have := h1.1; simpa using this
    exact ⟨h2, h3⟩

set_option maxRecDepth 100000 in
set_option maxHeartbeats 4000000 in
theorem begins_zero (a : Option Addr) (cap : Nat) (z : Int) (w : World) (ha : a = none → cap = 0) :
    Calls Try.prog 8 #[.slice a 0 cap, .int .i64 z] w fun e w' => e = .returned (.bool true) ∧ Below w.heap.size w w' := by
  obtain ⟨u, hu⟩ : ∃ u : Nat, IntKind.u64.wrap z = (u : Int) := ⟨(IntKind.u64.wrap z).toNat, by have := u64_nonneg z; omega⟩
  have hu1 : (u : Int) % 1 = 0 := by omega
  rcases a with _ | ad
  · obtain rfl := ha rfl
    go_enter Try.func8, Try.ntmps8
    go_wp2_with fail
    with_reducible refine (row_zero _ _ _).mono ?_
    rintro x w1 ⟨rfl, hb1⟩
    have HB1 := Lib.hid hb1
    clear hb1
    go_wp2_with fail
    with_reducible refine (row_zero _ _ _).mono ?_
    rintro x w2 ⟨rfl, hb2⟩
    have HB2 := Lib.hid (HB1.out.trans (hb2.mono HB1.out.size))
    clear hb2
    go_wp2_with fail
    with_reducible refine (row_zero _ _ _).mono ?_
    rintro x w3 ⟨rfl, hb3⟩
    have HB3 := Lib.hid (HB2.out.trans (hb3.mono HB2.out.size))
    clear hb3
    go_wp2_with fail
    with_reducible refine (known_any _).mono ?_
    rintro x w5 ⟨rfl, hb5⟩
    go_wp2
    go_ret
    exact ⟨rfl, HB3.out.trans (hb5.mono HB3.out.size)⟩
  · have b1 : (0 : Int) ≤ (cap : Int) := by omega
    go_enter Try.func8, Try.ntmps8
    go_wp2_with fail
    with_reducible refine (row_zero _ _ _).mono ?_
    rintro x w1 ⟨rfl, hb1⟩
    have HB1 := Lib.hid hb1
    clear hb1
    go_wp2_with fail
    with_reducible refine (row_zero _ _ _).mono ?_
    rintro x w2 ⟨rfl, hb2⟩
    have HB2 := Lib.hid (HB1.out.trans (hb2.mono HB1.out.size))
    clear hb2
    go_wp2_with fail
    with_reducible refine (row_zero _ _ _).mono ?_
    rintro x w3 ⟨rfl, hb3⟩
    have HB3 := Lib.hid (HB2.out.trans (hb3.mono HB2.out.size))
    clear hb3
    go_wp2_with fail
    with_reducible refine (known_any _).mono ?_
    rintro x w5 ⟨rfl, hb5⟩
    go_wp2
    go_ret
    exact ⟨rfl, HB3.out.trans (hb5.mono HB3.out.size)⟩

theorem entryBegins_walk (a : Option Addr) (n cap : Nat) (es : List Entry) (z : Int) (w : World) (hI : InEnts w a n cap es) (hz : (Lit.int .i64 z).wf = true) :
    Calls Try.prog 8 #[.slice a n cap, .int .i64 z] w fun e w' => e = .returned (.bool true) ∧ Below w.heap.size w w' := by
  by_cases hn : n ≤ 200
  · by_cases h0 : 0 < n
    · obtain ⟨b, off, rfl, _⟩ := hI.1.2 h0
      exact begins_mid b off n cap es z w hI h0 hn
    · obtain rfl : n = 0 := by omega
      exact begins_zero a cap z w hI.2.2.2
  · exact begins_long a n cap z w (by omega) (Nat.le_trans hI.2.1 hI.2.2.1)

end Go.Proofs.Ytccpmalefdnhdaa
