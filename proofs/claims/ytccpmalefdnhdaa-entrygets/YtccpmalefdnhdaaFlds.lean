/-
  The contract of the document's 'fields': for every entry.
-/
import Derived.Test.YtccpmalefdnhdaaFldB
import Derived.Test.YtccpmalefdnhdaaFldC
import Derived.Test.YtccpmalefdnhdaaFldD
import Derived.Test.YtccpmalefdnhdaaFldE
import Derived.Test.YtccpmalefdnhdaaFldF
import Derived.Test.YtccpmalefdnhdaaFldG
import Derived.Test.YtccpmalefdnhdaaFldH
namespace Go.Proofs.Ytccpmalefdnhdaa
open Go.RowKit

theorem fields_0 (e : Entry) (A1 A2 : Option Addr) (c1 c2 : Nat) (w : World) (hV : EntV w e A1 A2 c1 c2) (hk : e.kind < 1 ∨ 7 < e.kind) :
    Calls Try.prog 37 #[.agg (evs e (.slice A1 e.key.length c1) (.slice A2 e.data.length c2))] w (FldsPost e (.slice A1 e.key.length c1) (.slice A2 e.data.length c2) w) := by
  cases hu : e.undo
  · exact flds0_0_f e A1 A2 c1 c2 w hV hk hu
  · exact flds0_0_t e A1 A2 c1 c2 w hV hk hu
theorem fields_1 (e : Entry) (A1 A2 : Option Addr) (c1 c2 : Nat) (w : World) (hV : EntV w e A1 A2 c1 c2) (hk : e.kind = 1) :
    Calls Try.prog 37 #[.agg (evs e (.slice A1 e.key.length c1) (.slice A2 e.data.length c2))] w (FldsPost e (.slice A1 e.key.length c1) (.slice A2 e.data.length c2) w) := by
  cases hu : e.undo
  · exact flds1_0_f e A1 A2 c1 c2 w hV hk hu
  · exact flds1_0_t e A1 A2 c1 c2 w hV hk hu
theorem fields_2 (e : Entry) (A1 A2 : Option Addr) (c1 c2 : Nat) (w : World) (hV : EntV w e A1 A2 c1 c2) (hk : e.kind = 2) :
    Calls Try.prog 37 #[.agg (evs e (.slice A1 e.key.length c1) (.slice A2 e.data.length c2))] w (FldsPost e (.slice A1 e.key.length c1) (.slice A2 e.data.length c2) w) := by
  cases hu : e.undo
  · by_cases ho : 1 ≤ e.order
    rotate_left
    · exact flds2_0_f e A1 A2 c1 c2 w hV hk hu  ho
    by_cases h1 : 1 ≤ e.key.length
    rotate_left
    · exact flds2_1_f e A1 A2 c1 c2 w hV hk hu ho h1
    by_cases h2 : e.key.length ≤ 32
    rotate_left
    · exact flds2_2_f e A1 A2 c1 c2 w hV hk hu ho h1 h2
    by_cases h3 : e.data.length ≤ 200
    rotate_left
    · exact flds2_3_f e A1 A2 c1 c2 w hV hk hu ho h1 h2 h3
    exact flds2_4_f e A1 A2 c1 c2 w hV hk hu ho h1 h2 h3
  · by_cases ho : 1 ≤ e.order
    rotate_left
    · exact flds2_0_t e A1 A2 c1 c2 w hV hk hu  ho
    by_cases h1 : 1 ≤ e.key.length
    rotate_left
    · exact flds2_1_t e A1 A2 c1 c2 w hV hk hu ho h1
    by_cases h2 : e.key.length ≤ 32
    rotate_left
    · exact flds2_2_t e A1 A2 c1 c2 w hV hk hu ho h1 h2
    by_cases h3 : e.data.length ≤ 200
    rotate_left
    · exact flds2_3_t e A1 A2 c1 c2 w hV hk hu ho h1 h2 h3
    exact flds2_4_t e A1 A2 c1 c2 w hV hk hu ho h1 h2 h3
theorem fields_3 (e : Entry) (A1 A2 : Option Addr) (c1 c2 : Nat) (w : World) (hV : EntV w e A1 A2 c1 c2) (hk : e.kind = 3) :
    Calls Try.prog 37 #[.agg (evs e (.slice A1 e.key.length c1) (.slice A2 e.data.length c2))] w (FldsPost e (.slice A1 e.key.length c1) (.slice A2 e.data.length c2) w) := by
  cases hu : e.undo
  · by_cases ho : 1 ≤ e.order
    rotate_left
    · exact flds3_0_f e A1 A2 c1 c2 w hV hk hu  ho
    by_cases h1 : 0 ≤ e.step
    rotate_left
    · exact flds3_1_f e A1 A2 c1 c2 w hV hk hu ho h1
    by_cases h2 : e.step ≤ 15
    rotate_left
    · exact flds3_2_f e A1 A2 c1 c2 w hV hk hu ho h1 h2
    by_cases h3 : 1 ≤ e.tri
    rotate_left
    · exact flds3_3_f e A1 A2 c1 c2 w hV hk hu ho h1 h2 h3
    by_cases h4 : e.tri ≤ 255
    rotate_left
    · exact flds3_4_f e A1 A2 c1 c2 w hV hk hu ho h1 h2 h3 h4
    exact flds3_5_f e A1 A2 c1 c2 w hV hk hu ho h1 h2 h3 h4
  · by_cases ho : 1 ≤ e.order
    rotate_left
    · exact flds3_0_t e A1 A2 c1 c2 w hV hk hu  ho
    by_cases h1 : 0 ≤ e.step
    rotate_left
    · exact flds3_1_t e A1 A2 c1 c2 w hV hk hu ho h1
    by_cases h2 : e.step ≤ 15
    rotate_left
    · exact flds3_2_t e A1 A2 c1 c2 w hV hk hu ho h1 h2
    by_cases h3 : 1 ≤ e.tri
    rotate_left
    · exact flds3_3_t e A1 A2 c1 c2 w hV hk hu ho h1 h2 h3
    by_cases h4 : e.tri ≤ 255
    rotate_left
    · exact flds3_4_t e A1 A2 c1 c2 w hV hk hu ho h1 h2 h3 h4
    exact flds3_5_t e A1 A2 c1 c2 w hV hk hu ho h1 h2 h3 h4
theorem fields_4 (e : Entry) (A1 A2 : Option Addr) (c1 c2 : Nat) (w : World) (hV : EntV w e A1 A2 c1 c2) (hk : e.kind = 4) :
    Calls Try.prog 37 #[.agg (evs e (.slice A1 e.key.length c1) (.slice A2 e.data.length c2))] w (FldsPost e (.slice A1 e.key.length c1) (.slice A2 e.data.length c2) w) := by
  cases hu : e.undo
  · by_cases ho : 1 ≤ e.order
    rotate_left
    · exact flds4_0_f e A1 A2 c1 c2 w hV hk hu  ho
    by_cases h1 : 0 ≤ e.step
    rotate_left
    · exact flds4_1_f e A1 A2 c1 c2 w hV hk hu ho h1
    by_cases h2 : e.step ≤ 15
    rotate_left
    · exact flds4_2_f e A1 A2 c1 c2 w hV hk hu ho h1 h2
    by_cases h3 : 1 ≤ e.tri
    rotate_left
    · exact flds4_3_f e A1 A2 c1 c2 w hV hk hu ho h1 h2 h3
    by_cases h4 : e.tri ≤ 255
    rotate_left
    · exact flds4_4_f e A1 A2 c1 c2 w hV hk hu ho h1 h2 h3 h4
    by_cases h5 : 1 ≤ e.code
    rotate_left
    · exact flds4_5_f e A1 A2 c1 c2 w hV hk hu ho h1 h2 h3 h4 h5
    by_cases h6 : e.code ≤ 3
    rotate_left
    · exact flds4_6_f e A1 A2 c1 c2 w hV hk hu ho h1 h2 h3 h4 h5 h6
    exact flds4_7_f e A1 A2 c1 c2 w hV hk hu ho h1 h2 h3 h4 h5 h6
  · by_cases ho : 1 ≤ e.order
    rotate_left
    · exact flds4_0_t e A1 A2 c1 c2 w hV hk hu  ho
    by_cases h1 : 0 ≤ e.step
    rotate_left
    · exact flds4_1_t e A1 A2 c1 c2 w hV hk hu ho h1
    by_cases h2 : e.step ≤ 15
    rotate_left
    · exact flds4_2_t e A1 A2 c1 c2 w hV hk hu ho h1 h2
    by_cases h3 : 1 ≤ e.tri
    rotate_left
    · exact flds4_3_t e A1 A2 c1 c2 w hV hk hu ho h1 h2 h3
    by_cases h4 : e.tri ≤ 255
    rotate_left
    · exact flds4_4_t e A1 A2 c1 c2 w hV hk hu ho h1 h2 h3 h4
    by_cases h5 : 1 ≤ e.code
    rotate_left
    · exact flds4_5_t e A1 A2 c1 c2 w hV hk hu ho h1 h2 h3 h4 h5
    by_cases h6 : e.code ≤ 3
    rotate_left
    · exact flds4_6_t e A1 A2 c1 c2 w hV hk hu ho h1 h2 h3 h4 h5 h6
    exact flds4_7_t e A1 A2 c1 c2 w hV hk hu ho h1 h2 h3 h4 h5 h6
theorem fields_5 (e : Entry) (A1 A2 : Option Addr) (c1 c2 : Nat) (w : World) (hV : EntV w e A1 A2 c1 c2) (hk : e.kind = 5) :
    Calls Try.prog 37 #[.agg (evs e (.slice A1 e.key.length c1) (.slice A2 e.data.length c2))] w (FldsPost e (.slice A1 e.key.length c1) (.slice A2 e.data.length c2) w) := by
  cases hu : e.undo
  · by_cases ho : 1 ≤ e.order
    rotate_left
    · exact flds5_0_f e A1 A2 c1 c2 w hV hk hu  ho
    by_cases h5 : 1 ≤ e.code
    rotate_left
    · exact flds5_1_f e A1 A2 c1 c2 w hV hk hu ho h5
    by_cases h6 : e.code ≤ 3
    rotate_left
    · exact flds5_2_f e A1 A2 c1 c2 w hV hk hu ho h5 h6
    exact flds5_3_f e A1 A2 c1 c2 w hV hk hu ho h5 h6
  · by_cases ho : 1 ≤ e.order
    rotate_left
    · exact flds5_0_t e A1 A2 c1 c2 w hV hk hu  ho
    by_cases h5 : 1 ≤ e.code
    rotate_left
    · exact flds5_1_t e A1 A2 c1 c2 w hV hk hu ho h5
    by_cases h6 : e.code ≤ 3
    rotate_left
    · exact flds5_2_t e A1 A2 c1 c2 w hV hk hu ho h5 h6
    exact flds5_3_t e A1 A2 c1 c2 w hV hk hu ho h5 h6
theorem fields_6 (e : Entry) (A1 A2 : Option Addr) (c1 c2 : Nat) (w : World) (hV : EntV w e A1 A2 c1 c2) (hk : e.kind = 6) :
    Calls Try.prog 37 #[.agg (evs e (.slice A1 e.key.length c1) (.slice A2 e.data.length c2))] w (FldsPost e (.slice A1 e.key.length c1) (.slice A2 e.data.length c2) w) := by
  cases hu : e.undo
  · by_cases h5 : e.code = 1
    · exact flds6_0_f e A1 A2 c1 c2 w hV hk hu h5
    by_cases h6 : e.code = 2
    · exact flds6_1_f e A1 A2 c1 c2 w hV hk hu h6
    exact flds6_2_f e A1 A2 c1 c2 w hV hk hu (by omega)
  · by_cases h5 : e.code = 1
    · exact flds6_0_t e A1 A2 c1 c2 w hV hk hu h5
    by_cases h6 : e.code = 2
    · exact flds6_1_t e A1 A2 c1 c2 w hV hk hu h6
    exact flds6_2_t e A1 A2 c1 c2 w hV hk hu (by omega)
theorem fields_7 (e : Entry) (A1 A2 : Option Addr) (c1 c2 : Nat) (w : World) (hV : EntV w e A1 A2 c1 c2) (hk : e.kind = 7) :
    Calls Try.prog 37 #[.agg (evs e (.slice A1 e.key.length c1) (.slice A2 e.data.length c2))] w (FldsPost e (.slice A1 e.key.length c1) (.slice A2 e.data.length c2) w) := by
  cases hu : e.undo
  · by_cases h5 : e.mark < e.lsn
    rotate_left
    · exact flds7_1_f e A1 A2 c1 c2 w hV hk hu  h5
    exact flds7_0_f e A1 A2 c1 c2 w hV hk hu h5
  · by_cases h5 : e.mark < e.lsn
    rotate_left
    · exact flds7_1_t e A1 A2 c1 c2 w hV hk hu  h5
    exact flds7_0_t e A1 A2 c1 c2 w hV hk hu h5
theorem fields_any (e : Entry) (A1 A2 : Option Addr) (c1 c2 : Nat) (w : World) (hV : EntV w e A1 A2 c1 c2) :
    Calls Try.prog 37 #[.agg (evs e (.slice A1 e.key.length c1) (.slice A2 e.data.length c2))] w (FldsPost e (.slice A1 e.key.length c1) (.slice A2 e.data.length c2) w) := by
  by_cases h : e.kind < 1 ∨ 7 < e.kind
  · exact fields_0 e A1 A2 c1 c2 w hV h
  have : e.kind = 1 ∨ e.kind = 2 ∨ e.kind = 3 ∨ e.kind = 4 ∨ e.kind = 5 ∨ e.kind = 6 ∨ e.kind = 7 := by omega
  rcases this with h | h | h | h | h | h | h
  · exact fields_1 e A1 A2 c1 c2 w hV h
  · exact fields_2 e A1 A2 c1 c2 w hV h
  · exact fields_3 e A1 A2 c1 c2 w hV h
  · exact fields_4 e A1 A2 c1 c2 w hV h
  · exact fields_5 e A1 A2 c1 c2 w hV h
  · exact fields_6 e A1 A2 c1 c2 w hV h
  · exact fields_7 e A1 A2 c1 c2 w hV h

end Go.Proofs.Ytccpmalefdnhdaa
