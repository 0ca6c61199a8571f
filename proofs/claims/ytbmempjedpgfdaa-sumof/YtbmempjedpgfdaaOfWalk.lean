/-
  The contracts of Lent and Whole, and the walk of SumOf.
-/
import Derived.Test.YtbmempjedpgfdaaRefOf
import Derived.Laws.BytesArg
namespace Go.Proofs.Ytbmempjedpgfdaa
open Go.RowKit

/-- What is lent: the bytes, and two of room behind them. -/
def LentPost (w : World) (n : Nat) (l : List Nat) (e : Ending) (w' : World) : Prop :=
  ∃ g c, e = .returned (.slice (some ⟨g, 0, none⟩) n c) ∧ n + 2 ≤ c ∧ c ≤ maxLen ∧ Bys w' (some ⟨g, 0, none⟩) (n + 2) (l ++ [91, 92]) ∧ Below w.heap.size w w'

theorem bys_marks (w : World) (fr : Nat × Nat) : Bys (w.alloc (.cells #[.int .u8 91, .int .u8 92] 5 fr)) (some ⟨w.heap.size, 0, none⟩) 2 [91, 92] := Bys.const w _ [91, 92] fr 2 rfl rfl (by decide)

set_option maxHeartbeats 400000 in
theorem lent_any (a : Option Addr) (n cap : Nat) (l : List Nat) (w : World) (hB : Bys w a n l) (hA : a = none → cap = 0) (hn : n ≤ 100000) :
    Calls Try.prog 10 #[.slice a n cap] w (LentPost w n l) := by
  have HB := Lib.hid hB
  have HA := Lib.hid hA
  clear hB hA
  go_enter Try.func10, Try.ntmps10
  go_wp2_with fail
  with_reducible refine (copy_any _ _ _ _ _ HB.out HA.out (by omega)).mono ?_
  rintro e w2 ⟨v, rfl, hO, hb2⟩
  have HO := Lib.hid hO
  clear hO
  have hlen : (l ++ [91, 92]).length = n + 2 := by rw [List.length_append, HB.out.1]; rfl
  have HLEN := Lib.hid hlen
  clear hlen
  go_wp2_with (first
    | ((with_reducible refine wpl_append (some 8) _ _ _ (.tmp 6) (.tmp 7) w.heap.size v l (some ⟨w2.heap.size, 0, none⟩) 2 2 [91, 92] ?hs ?hx (HO.out.alloc _) (bys_marks _ _) ?ha ?hm ?hz ?_); (case hs => rfl); (case hx => rfl); (case ha => (intro h; cases h)); (case hm => (rw [HB.out.1]; omega)); (case hz => exact Nat.le_trans hb2.size (by simp)); (intro v' w' ho hg hv); (obtain ⟨g, c, hv', hBx, hc1, hc2⟩ := ho.some_ (by rw [HLEN.out]; omega)); (rw [HLEN.out] at hv' hBx hc1); (rw [hv']); (have HBX := Lib.hid hBx); (clear hv' hBx ho hv)))
  go_ret
  exact ⟨g, c, rfl, hc1, hc2, HBX.out, (HO.out.alloc _).grows hg (hb2.alloc hb2.size _) (Nat.le_refl _) (Nat.le_trans hb2.size (by simp))⟩

theorem Bys.part {w : World} {a : Option Addr} {n m : Nat} {l t : List Nat} (h : Bys w a m (l ++ t)) (hl : l.length = n) : Bys w a n l := by
  have hm := h.1
  rw [List.length_append] at hm
  subst hl
  have := h.front l.length (by omega)
  rwa [List.take_left] at this

/-- The text of these bytes. -/
def str (l : List Nat) : ByteArray := strOfNums (l.map (fun (c : Nat) => (c : Int)))
theorem run_str {w : World} {a : Option Addr} {n : Nat} {l : List Nat} (h : Bys w a n l) (c : Nat) : (convert 22 9 (.slice a n c)).run Try.prog w = .ok (.string (str l)) w := by
  by_cases h0 : n = 0
  · subst h0
    have hl : l = [] := List.eq_nil_of_length_eq_zero h.1
    subst hl
    rcases a with _ | ad
    · exact run_convert_bytes_nil (P := Try.prog) w 22 5 Try.underlying22 Try.underlying5 0 c 9 Try.underlying9
    · rw [run_convert_bytes_string (P := Try.prog) w 22 9 5 (some ad) 0 c Try.underlying22 Try.underlying5 Try.underlying9]
      exact run_bytesToString (P := Try.prog) w ad 0 c [] (by simp [loadCells, loadCellsFrom])
  · obtain ⟨b, off, rfl, hc⟩ := h.2.2 (by omega)
    refine run_convert_bytes_arg (P := Try.prog) w 22 5 Try.underlying22 Try.underlying5 b off n c _ (by simp [h.1]) (fun i hi => ?_) 9 Try.underlying9
    rw [hc i hi]
    have : i < l.length := by rw [h.1]; exact hi
    simp [List.getD, this]

set_option maxHeartbeats 400000 in
theorem whole_any (g n c : Nat) (b : Option Addr) (cb : Nat) (l : List Nat) (w : World) (hX : Bys w (some ⟨g, 0, none⟩) (n + 2) (l ++ [91, 92])) (hB : Bys w b n l) (hc : n + 2 ≤ c) (hn : n ≤ 100000) :
    Calls Try.prog 13 #[.slice (some ⟨g, 0, none⟩) n c, .slice b n cb] w fun e w' => e = .returned (.bool true) ∧ Below w.heap.size w w' := by
  obtain ⟨g', off, e, hcell⟩ := hX.2.2 (by omega)
  injection e with e
  injection e with e1 e2 _
  subst e1 e2
  have c1 := hcell n (by omega)
  have c2 := hcell (n + 1) (by omega)
  have hl := hB.1
  have e1 : (l ++ [91, 92]).getD n 0 = 91 := by simp [List.getD, ← hl]
  have e2 : (l ++ [91, 92]).getD (n + 1) 0 = 92 := by simp [List.getD, ← hl]
  rw [e1, Nat.zero_add] at c1
  rw [e2, Nat.zero_add] at c2
  have HX := Lib.hid hX
  have HB := Lib.hid hB
  have r1 := run_str (hX.part hl) c
  have r2 := run_str hB cb
  generalize str l = S at *
  clear hX hB hcell hl e1 e2 HX HB
  go_enter Try.func13, Try.ntmps13
  go_wp2
  go_ret
  exact ⟨rfl, Below.refl _ _⟩

set_option maxHeartbeats 400000 in
theorem sumOf_long (a : Option Addr) (n cap : Nat) (w : World) (hn : 3000 < n) (hm : n ≤ maxLen) :
    Calls Try.prog 3 #[.slice a n cap] w fun e w' => e = .returned (.bool true) ∧ Below w.heap.size w w' := by
  unfold maxLen at hm
  go_enter Try.func3, Try.ntmps3
  go_wp2_with fail
  with_reducible refine (known_any _).mono ?_
  rintro e w2 ⟨rfl, hb⟩
  go_wp2
  go_ret
  exact ⟨rfl, hb⟩

set_option maxHeartbeats 400000 in
theorem sumOf_short (a : Option Addr) (n cap : Nat) (l : List Nat) (w : World) (hB : Bys w a n l) (hA : a = none → cap = 0) (hn : n ≤ 3000) :
    Calls Try.prog 3 #[.slice a n cap] w fun e w' => e = .returned (.bool true) ∧ Below w.heap.size w w' := by
  have HB := Lib.hid hB
  have HA := Lib.hid hA
  clear hB hA
  go_enter Try.func3, Try.ntmps3
  go_wp2_with fail
  with_reducible refine (lent_any _ _ _ _ _ HB.out HA.out (by omega)).mono ?_
  rintro e w2 ⟨g, c, rfl, hc1, hc2, hX, hb2⟩
  have HX := Lib.hid hX
  have HX1 := Lib.hid (hX.part HB.out.1)
  have HB2 := Lib.hid (HB.out.below hb2)
  clear hX
  go_wp2_with fail
  with_reducible refine (of_bytes _ _ _ _ _ HX1.out (small_len _ (by omega))).mono ?_
  rintro e w3 ⟨rfl, rfl⟩
  go_wp2_with fail
  with_reducible refine (of_bytes _ _ _ _ _ HX1.out (small_len _ (by omega))).mono ?_
  rintro e w3 ⟨rfl, rfl⟩
  go_wp2_with fail
  with_reducible refine (refOf_any _ _ _ _ _ HB2.out (by omega)).mono ?_
  rintro e w3 ⟨rfl, hb3⟩
  have HX3 := Lib.hid (HX.out.below hb3)
  have HB3 := Lib.hid (HB2.out.below hb3)
  go_wp2_with fail
  with_reducible refine (whole_any _ _ _ _ _ _ _ HX3.out HB3.out hc1 (by omega)).mono ?_
  rintro e w4 ⟨rfl, hb4⟩
  go_wp2_with fail
  with_reducible refine (known_any _).mono ?_
  rintro e w5 ⟨rfl, hb5⟩
  go_wp2
  go_ret
  have s2 := hb2.size
  have s3 := hb3.size
  have s4 := hb4.size
  exact ⟨rfl, ((hb2.trans (hb3.mono (by omega))).trans (hb4.mono (by omega))).trans (hb5.mono (by omega))⟩

end Go.Proofs.Ytbmempjedpgfdaa
