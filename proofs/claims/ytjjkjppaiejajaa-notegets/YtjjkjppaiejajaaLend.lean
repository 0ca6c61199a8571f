/-
  What is lent is its owner's to write over: the contracts of Lent and Spoil.
-/
import Derived.Test.YtjjkjppaiejajaaArgs
namespace Go.Proofs.Ytjjkjppaiejajaa
open Go.RowKit


theorem grown_set {a w : World} {g : Nat} (h : a.grownBy w (some g)) (o : Nat) (u : Value) : a.grownBy (w.setCell ⟨g, o, none⟩ u) (some g) :=
  ⟨h.os, h.tape, h.output, by simpa [World.setCell] using h.size, fun i hi hne => (Below.heap_setCell w ⟨g, o, none⟩ u i (by rintro rfl; exact hne rfl)).trans (h.block i hi hne)⟩

/-- What is lent: the bytes, and two of room behind them, in a block of its own. -/
def LentOwn (w : World) (n : Nat) (l : List Nat) (e : Ending) (w' : World) : Prop :=
  ∃ g c, e = .returned (.slice (some ⟨g, 0, none⟩) n c) ∧ n + 2 ≤ c ∧ c ≤ maxLen ∧ w.heap.size ≤ g ∧ Own w' w.heap.size (.slice (some ⟨g, 0, none⟩) (n + 2) c) (l ++ [91, 92]) ∧ Below w.heap.size w w'

set_option maxHeartbeats 400000 in
theorem lent_own (a : Option Addr) (n cap : Nat) (l : List Nat) (w : World) (hB : Bys w a n l) (hA : a = none → cap = 0) (hn : n ≤ 100000) :
    Calls Try.prog 12 #[.slice a n cap] w (LentOwn w n l) := by
  have HB := Lib.hid hB
  have HA := Lib.hid hA
  clear hB hA
  go_enter Try.func12, Try.ntmps12
  go_wp2_with fail
  with_reducible refine (copy_any _ _ _ _ _ HB.out HA.out (by omega)).mono ?_
  rintro e w2 ⟨v, rfl, hO, hb2⟩
  have HO := Lib.hid hO
  clear hO
  have hlen : (l ++ [91, 92]).length = n + 2 := by rw [List.length_append, HB.out.1]; rfl
  have HLEN := Lib.hid hlen
  clear hlen
  go_wp2_with (first
    | ((with_reducible refine wpl_append (some 8) _ _ _ (.tmp 6) (.tmp 7) w.heap.size v l (some ⟨w2.heap.size, 0, none⟩) 2 2 [91, 92] ?hs ?hx (HO.out.alloc _) (bys_marks _ _) ?ha ?hm ?hz ?_); (case hs => rfl); (case hx => rfl); (case ha => (intro h; cases h)); (case hm => (rw [HB.out.1]; omega)); (case hz => exact Nat.le_trans hb2.size (by simp)); (intro v' w' ho hg hv); (obtain ⟨g, c, hv', hBx, hc1, hc2⟩ := ho.some_ (by rw [HLEN.out]; omega)); (rw [HLEN.out] at hv' hc1); (subst hv'); (have HOX := Lib.hid ho); (clear hBx ho hv)))
  go_ret
  exact ⟨g, c, rfl, hc1, hc2, HOX.out.block g rfl, HOX.out, (HO.out.alloc _).grows hg (hb2.alloc hb2.size _) (Nat.le_refl _) (Nat.le_trans hb2.size (by simp))⟩

def SpR (w : World) (g n : Nat) (i : Value) (wr : World) : Prop :=
  ∃ (k : Nat) (cur : Array Value), k ≤ n ∧ i = .int .i64 k ∧ Lies wr g 5 cur ∧ (∀ j, j < n → ∃ z : Int, cur[j]? = some (.int .u8 z)) ∧ w.grownBy wr (some g)

set_option maxHeartbeats 400000 in
theorem spoil_any (g n c : Nat) (l : List Nat) (B : Nat) (m : Nat) (w : World) (hO : Own w B (.slice (some ⟨g, 0, none⟩) m c) l) (hn : n ≤ m) (hm : m ≤ 100000) :
    Calls Try.prog 16 #[.slice (some ⟨g, 0, none⟩) n c] w fun e w' => e = .returned (.tuple #[]) ∧ w.grownBy w' (some g) := by
  rcases hO.form with ⟨h, _⟩ | ⟨g', cap, cur, hv, hgB, hL, h1, h2, h3, hcur⟩
  · cases h
  injection hv with e1 e2 e3
  injection e1 with e1
  injection e1 with e1 _ _
  subst e1 e3
  have hst : ∀ j, j < n → ∃ z : Int, cur[j]? = some (.int .u8 z) := fun j hj => ⟨_, hcur j (by omega)⟩
  have HL := Lib.hid hL
  have HST := Lib.hid hst
  clear hL hcur hst h3 hO
  go_enter Try.func16, Try.ntmps16
  go_wp2_with fail
  go_loopw [2] (SpR w g n) (fun i _ => n - (intOf i).toNat)
  case atStart => exact ⟨0, cur, by omega, rfl, HL.out, HST.out, World.grownBy.refl w _⟩
  case round =>
    clear HST HL
    obtain ⟨k, cu, hk, rfl, hL, hst, hgr⟩ := hrel
    by_cases hlt : k < n
    · obtain ⟨z, hz⟩ := hst k hlt
      have hck := (hL.cell k).trans hz
      have hfk := hL.free k
      have HST := Lib.hid hst
      have HL := Lib.hid hL
      clear hst hL hz
      go_wp2
      refine ⟨⟨k + 1, _, by omega, by go_num, HL.out.put k _, fun j hj => ?_, grown_set hgr k _⟩, by simp [intOf]; omega⟩
      rw [Array.getElem?_setIfInBounds]
      obtain ⟨z', hz'⟩ := HST.out j hj
      by_cases hjk : k = j
      · subst hjk
        have hlt2 : k < cu.size := (Array.getElem?_eq_some_iff.1 hz').1
        rw [if_pos rfl, if_pos hlt2]
        exact ⟨_, rfl⟩
      · rw [if_neg hjk]; exact ⟨z', hz'⟩
    · have hkn : k = n := by omega
      subst hkn
      go_wp2
      go_end0
      exact ⟨rfl, hgr⟩


end Go.Proofs.Ytjjkjppaiejajaa
