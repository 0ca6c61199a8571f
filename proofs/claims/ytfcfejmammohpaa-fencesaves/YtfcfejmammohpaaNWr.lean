/-
  The contracts of write: for each letter.
-/
import Derived.Test.YtfcfejmammohpaaNChk
import Derived.Test.YtfcfejmammohpaaWrite
import Derived.Deep.RegionHeld3
namespace Go.Proofs.Ytfcfejmammohpaa
open Go.RowKit
attribute [local go_sem ↓] Go.wp_at_zero Go.wp_at_succ
set_option linter.unusedVariables false

theorem Wr.drew {w : World} {p B : Nat} {l : List Nat} (h : Wr w p B l) : Wr w.drew p B l := h
theorem Wr.size {w : World} {p B : Nat} {l : List Nat} (h : Wr w p B l) : B ≤ w.heap.size := by
  obtain ⟨h1, v, hL, _⟩ := h
  exact Nat.le_trans h1 (Nat.le_of_lt hL.lt)
def WritePost (w : World) (p B : Nat) (l : List Nat) (e : Ending) (w' : World) : Prop := e = .returned (.tuple #[]) ∧ Wr w' p B l ∧ Below B w w' ∧ Keep w w'
theorem flag_any (u : Bool) (w : World) : Calls Try.prog 77 #[.bool u] w fun x w' => x = .returned (.int .u8 (Ent.b2n u : Nat)) ∧ w = w' := by
  cases u
  · go_enter Try.func77, Try.ntmps77
    go_wp2
    go_ret
    exact ⟨rfl, rfl⟩
  · go_enter Try.func77, Try.ntmps77
    go_wp2
    go_ret
    exact ⟨rfl, rfl⟩

/-- A note's texts lie there, below B. -/
structure Txt (w : World) (B : Nat) (e : Note) (A1 A2 : Option Addr) (c1 c2 : Nat) : Prop where
  k : Bys w A1 e.key.length e.key
  kl : Low B A1 e.key.length
  ka : A1 = none → c1 = 0
  d : Bys w A2 e.data.length e.data
  dl : Low B A2 e.data.length
  da : A2 = none → c2 = 0
theorem Txt.below {w w' : World} {B : Nat} {e : Note} {A1 A2 : Option Addr} {c1 c2 : Nat} (h : Txt w B e A1 A2 c1 c2) (hb : Below B w w') : Txt w' B e A1 A2 c1 c2 :=
  ⟨h.k.belowB h.kl hb, h.kl, h.ka, h.d.belowB h.dl hb, h.dl, h.da⟩
theorem Low.mono {B B' : Nat} {A : Option Addr} {n : Nat} (h : Low B A n) (hb : B ≤ B') : Low B' A n := fun h0 => by
  obtain ⟨b, off, h1, h2⟩ := h h0
  exact ⟨b, off, h1, by omega⟩
theorem Txt.mono {w : World} {B B' : Nat} {e : Note} {A1 A2 : Option Addr} {c1 c2 : Nat} (h : Txt w B e A1 A2 c1 c2) (hb : B ≤ B') : Txt w B' e A1 A2 c1 c2 :=
  ⟨h.k, h.kl.mono hb, h.ka, h.d, h.dl.mono hb, h.da⟩

end Go.Proofs.Ytfcfejmammohpaa
