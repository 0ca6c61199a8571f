/-
  The contract of act.
-/
import Derived.Test.YtnajombhlmbopaaInA
import Derived.Test.YtnajombhlmbopaaCanc
namespace Go.Proofs.Ytnajombhlmbopaa
open Go.Proofs Go.RowKit
set_option maxRecDepth 100000
set_option linter.unusedVariables false
set_option linter.unusedSimpArgs false

/-- Is it a booking? -/
def isBk (t : Int) : Bool := decide (0 ≤ t) && decide (t ≤ 2)
/-- What an act does. -/
def actS (q : Ss) (a : Ac) : Ss := if isBk a.t = true then bookS q a.o a.f a.n else cancS q a.o
def actV (q : Ss) (a : Ac) : Bool := if isBk a.t = true then (bookD q a.o a.f a.n).isSome else (findH q.H a.o).isSome
def actD (q : Ss) (a : Ac) : Int := if isBk a.t = true then dayI (bookD q a.o a.f a.n) else 0
def ActPost (w : World) (b : SB) (q : Ss) (a : Ac) (e : Ending) (w' : World) : Prop := e = .returned (.tuple #[.int .i64 (actD q a), .int .i64 (verd (actV q a))]) ∧ At w' b (actS q a) ∧ Frm w w' b
theorem Inv.act {R : List Int} {q : Ss} (h : Inv R q) {a : Ac} (ho : a.o < 4294967296) : Inv R (actS q a) := by
  unfold actS
  split
  · exact h.book ho _ _
  · exact h.canc _
theorem actS_len (q : Ss) (a : Ac) : (actS q a).H.length ≤ q.H.length + 1 ∧ (actS q a).F.length = q.F.length := by
  unfold actS
  split
  · exact bookS_len q _ _ _
  · have := cancS_len q a.o; exact ⟨by omega, this.2⟩
theorem actS_no {q : Ss} {a : Ac} (h : actV q a = false) : actS q a = q := by
  unfold actV at h
  unfold actS
  split
  · rename_i h1; rw [if_pos h1] at h; exact bookS_no (by simpa using h)
  · rename_i h1; rw [if_neg h1] at h; exact cancS_no (by simpa using h)

set_option maxHeartbeats 4000000 in
theorem act_any (R : List Int) (b : SB) (q : Ss) (a : Ac) (w : World) (hA : At w b q) (hI : Inv R q) (ho : a.o < 4294967296) (hf : in64 a.f) (hn : in64 a.n) (hl : q.H.length ≤ 1000) :
    Calls Try.prog 12 #[.pointer (some ⟨b.s, 0, none⟩), .agg #[.int .i64 a.t, .int .u32 (a.o : Int), .int .i64 a.f, .int .i64 a.n]] w (ActPost w b q a) := by
  have HA := Lib.hid (hA.alloc (.cells #[.int .i64 a.t, .int .u32 (a.o : Int), .int .i64 a.f, .int .i64 a.n] 34))
  have HB := Lib.hid (Frm.of_below b (below1 w (.cells #[.int .i64 a.t, .int .u32 (a.o : Int), .int .i64 a.f, .int .i64 a.n] 34)))
  have C1 := Lib.hid (book_any R b q a.o a.f a.n _ HA.out hI ho hf hn hl)
  have D0 := Lib.hid (canc_any R b q a.o _ HA.out hI ho)
  clear hA hI hn hf
  obtain ⟨t, o, f, n⟩ := a
  dsimp only at *
  by_cases h0 : 0 ≤ t
  · have e0 : decide (0 ≤ t) = true := by simpa using h0
    by_cases h1 : t ≤ 2
    · have e1 : decide (t ≤ 2) = true := by simpa using h1
      have ev : actV q ⟨t, o, f, n⟩ = (bookD q o f n).isSome ∧ actS q ⟨t, o, f, n⟩ = bookS q o f n ∧ actD q ⟨t, o, f, n⟩ = dayI (bookD q o f n) := by
        have hb : isBk t = true := by unfold isBk; rw [e0, e1]; rfl
        unfold actV actS actD
        dsimp only
        rw [if_pos hb, if_pos hb, if_pos hb]
        exact ⟨rfl, rfl, rfl⟩
      have EV := Lib.hid ev
      clear ev D0 h0 h1
      go_enter Try.func12, Try.ntmps12
      go_wp2_with fail
      with_reducible refine C1.out.mono ?_
      rintro e w2 ⟨rfl, h1, h2⟩
      have H1 := Lib.hid h1
      have H2 := Lib.hid h2
      clear h1 h2
      go_wp2
      go_ret2
      exact ⟨by rw [EV.out.1, EV.out.2.2]; rfl, by rw [EV.out.2.1]; exact H1.out, HB.out.trans H2.out⟩
    · have e1 : decide (t ≤ 2) = false := by simpa using h1
      have ev : actV q ⟨t, o, f, n⟩ = (findH q.H o).isSome ∧ actS q ⟨t, o, f, n⟩ = cancS q o ∧ actD q ⟨t, o, f, n⟩ = 0 := by
        have hb : ¬ isBk t = true := by unfold isBk; rw [e0, e1]; decide
        unfold actV actS actD
        dsimp only
        rw [if_neg hb, if_neg hb, if_neg hb]
        exact ⟨rfl, rfl, rfl⟩
      have EV := Lib.hid ev
      clear ev C1 h0 h1
      go_enter Try.func12, Try.ntmps12
      go_wp2_with fail
      with_reducible refine D0.out.mono ?_
      rintro e w2 ⟨rfl, h1, h2⟩
      have H1 := Lib.hid h1
      have H2 := Lib.hid h2
      clear h1 h2
      go_wp2
      go_ret2
      exact ⟨by rw [EV.out.1, EV.out.2.2]; rfl, by rw [EV.out.2.1]; exact H1.out, HB.out.trans H2.out⟩
  · have e0 : decide (0 ≤ t) = false := by simpa using h0
    have ev : actV q ⟨t, o, f, n⟩ = (findH q.H o).isSome ∧ actS q ⟨t, o, f, n⟩ = cancS q o ∧ actD q ⟨t, o, f, n⟩ = 0 := by
      have hb : ¬ isBk t = true := by unfold isBk; rw [e0]; simp
      unfold actV actS actD
      dsimp only
      rw [if_neg hb, if_neg hb, if_neg hb]
      exact ⟨rfl, rfl, rfl⟩
    have EV := Lib.hid ev
    clear ev C1 h0
    go_enter Try.func12, Try.ntmps12
    go_wp2_with fail
    with_reducible refine D0.out.mono ?_
    rintro e w2 ⟨rfl, h1, h2⟩
    have H1 := Lib.hid h1
    have H2 := Lib.hid h2
    clear h1 h2
    go_wp2
    go_ret2
    exact ⟨by rw [EV.out.1, EV.out.2.2]; rfl, by rw [EV.out.2.1]; exact H1.out, HB.out.trans H2.out⟩

end Go.Proofs.Ytnajombhlmbopaa
