/-
  The contracts of package field's writer: U32, Done.
-/
import Derived.Test.YtjjkjppaiejajaaField
namespace Go.Proofs.Ytjjkjppaiejajaa
open Go.RowKit

theorem Own.mono {w : World} {B B' : Nat} {v : Value} {l : List Nat} (h : Own w B v l) (hb : B' ≤ B) : Own w B' v l := by
  obtain ⟨⟨h0, h1⟩, h2⟩ := h
  refine ⟨⟨h0, ?_⟩, h2⟩
  rcases h1 with h1 | ⟨g, cap, cur, hv, hg, hr⟩
  · exact .inl h1
  · exact .inr ⟨g, cap, cur, hv, Nat.le_trans hb hg, hr⟩
theorem Wr.below {w w' : World} {p B : Nat} {l : List Nat} (h : Wr w p B l) (hb : Below w.heap.size w w') : Wr w' p B l := by
  obtain ⟨h1, v, h2, h3⟩ := h
  exact ⟨h1, v, h2.below hb h2.lt, h3.belowOwn hb⟩

set_option maxHeartbeats 400000 in
theorem wu32_any (p B n : Nat) (l : List Nat) (w : World) (hW : Wr w p B l) (hn : n < 4294967296) (hl : l.length ≤ 2000) :
    Calls Try.prog 44 #[.pointer (some ⟨p, 0, none⟩), .int .u32 n] w (WrPost w p B (l ++ Ent.be 4 n)) := by
  have HW := Lib.hid hW
  clear hW
  have c2 := wnumber_any p B n 4 l w HW.out (by omega) hl
  rw [show ((4 : Nat) : Int) = 4 from rfl] at c2
  have C2 := Lib.hid c2
  clear c2
  go_enter Try.func44, Try.ntmps44
  go_wp2_with fail
  with_reducible refine C2.out.mono ?_
  rintro e w2 ⟨rfl, hW2, hb2⟩
  go_wp2
  go_ret
  exact ⟨rfl, hW2, hb2⟩

def DonePost (w : World) (l : List Nat) (e : Ending) (w' : World) : Prop :=
  ∃ v, e = .returned (.tuple #[v, .int .i64 0]) ∧ Own w' w.heap.size v l ∧ Below w.heap.size w w'

set_option maxHeartbeats 400000 in
theorem wdone_any (p B : Nat) (l : List Nat) (w : World) (hW : Wr w p B l) (hl : l.length ≤ 2000) :
    Calls Try.prog 30 #[.pointer (some ⟨p, 0, none⟩)] w (DonePost w l) := by
  obtain ⟨_, v, hL, hO⟩ := hW
  obtain ⟨A, c, rfl, hB, _, _, _⟩ := hO.slice
  have hc0 := hL.cell 0
  have hc1 := hL.cell 1
  have HB := Lib.hid hB
  clear hL hO hB
  go_enter Try.func30, Try.ntmps30
  go_wp2_with fail
  with_reducible refine (fresh_any _ _ _ _ _ HB.out (by omega)).mono ?_
  rintro e w2 ⟨rfl, hO2, hb2⟩
  have HO2 := Lib.hid hO2
  clear hO2
  go_wp2
  go_ret2
  exact ⟨_, rfl, HO2.out, hb2⟩


end Go.Proofs.Ytjjkjppaiejajaa
