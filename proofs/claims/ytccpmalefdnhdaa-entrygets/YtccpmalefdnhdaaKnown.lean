/-
  The contract of 'known': the chapter's examples hold: it returns true.
-/
import Derived.Test.YtccpmalefdnhdaaERow
import Derived.Test.YtccpmalefdnhdaaSame4
import Derived.Test.YtccpmalefdnhdaaEGet2
namespace Go.Proofs.Ytccpmalefdnhdaa
open Go.RowKit

theorem GetPost.of_some {l : List Nat} {w w' : World} {x : Ending} {e : Entry} (h : GetPost l w x w') (hg : Ent.get one l = some e) :
    ∃ K D, x = .returned (.tuple #[.agg (evs e K D), .int .i64 0]) ∧ Own w' w.heap.size K e.key ∧ Own w' w.heap.size D e.data ∧ (∀ g, K.ownBlock = some g → D.ownBlock ≠ some g) ∧ Below w.heap.size w w' := by
  obtain ⟨hb, ⟨e2, K, D, hg2, hx, hK, hD, hn⟩ | ⟨hg2, _⟩⟩ := h
  · rw [hg] at hg2
    injection hg2 with hg2
    subst hg2
    exact ⟨K, D, hx, hK, hD, hn, hb⟩
  · rw [hg] at hg2; cases hg2
theorem GetPost.of_none {l : List Nat} {w w' : World} {x : Ending} (h : GetPost l w x w') (hg : Ent.get one l = none) :
    x = .returned (.tuple #[.agg (evs Ent.zero nilV nilV), .int .i64 40]) ∧ Below w.heap.size w w' := by
  obtain ⟨hb, ⟨e2, K, D, hg2, hx, hK, hD, hn⟩ | ⟨hg2, hx⟩⟩ := h
  · rw [hg] at hg2; cases hg2
  · exact ⟨hx, hb⟩

def kE : Entry := ⟨5, 7, 2, 258, 0, false, 0, 1, 0, [], []⟩
def kR1 : Entry := ⟨1, 3, 1, 0, 0, false, 0, 0, 0, [], []⟩
def kR2 : Entry := ⟨6, 4, 1, 0, 0, false, 0, 2, 0, [], []⟩
def kR3 : Entry := ⟨6, 6, 1, 0, 0, false, 0, 2, 0, [], []⟩
def kB : List Nat := [5, 0, 0, 0, 0, 0, 0, 0, 7, 0, 0, 0, 2, 0, 0, 1, 2, 1]
theorem kE_ok : Ent.ok kE = true := by decide +kernel
theorem kE_enc : Ent.enc kE = kB := by decide +kernel
theorem kE_put : putB kE = kB := by unfold putB; rw [if_pos kE_ok, kE_enc]
theorem kE_chk : chkN kE = 0 := by unfold chkN; rw [if_pos kE_ok]
theorem zero_chk : chkN Ent.zero = 40 := by decide +kernel
theorem bnd_plain (e : Entry) (h1 : e.lsn < 18446744073709551616) (h2 : e.epoch < 4294967296) (h3 : e.order < 4294967296) (h4 : e.mark < 18446744073709551616) (h5 : e.key = []) (h6 : e.data = []) : Ent.Bnd e :=
  ⟨h1, h2, h3, h4, (by rw [h5]; intro c hc; cases hc), (by rw [h6]; intro c hc; cases hc)⟩
theorem kE_bnd : Ent.Bnd kE := bnd_plain _ (by decide) (by decide) (by decide) (by decide) rfl rfl
theorem kE_get : Ent.get one kB = some kE := by rw [← kE_enc]; exact Ent.get_enc one rfl rfl kE kE_bnd kE_ok
theorem kR_row : Ent.RowIs [kR1, kR2, kR3] 2 := by
  have n12 : Ent.nxt kR1 kR2 := ⟨rfl, .inl rfl⟩
  have n23 : ¬ Ent.nxt kR2 kR3 := fun h => absurd h.1 (by decide)
  have g0 : Ent.good [kR1, kR2, kR3] 0 := ⟨kR1, rfl, by decide +kernel, fun h => absurd h (by decide)⟩
  have g1 : Ent.good [kR1, kR2, kR3] 1 := ⟨kR2, rfl, by decide +kernel, fun _ => ⟨kR1, rfl, n12⟩⟩
  refine ⟨by decide, fun j hj => ?_, fun _ => ?_⟩
  · rcases j with _ | j
    · exact g0
    · have : j = 0 := by omega
      subst this; exact g1
  · exact not_good_nxt (es := [kR1, kR2, kR3]) (k := 2) (by decide) (by decide) n23
/-- The three entries lie in a new block. -/
theorem kR_ents (w : World) : Ents (w.alloc (.cells (evs kR1 nilV nilV ++ evs kR2 nilV nilV ++ evs kR3 nilV nilV) 26)) (some ⟨w.heap.size, 0, none⟩) 3 [kR1, kR2, kR3] := by
  have hL := Lies.made w 26 (evs kR1 nilV nilV ++ evs kR2 nilV nilV ++ evs kR3 nilV nilV)
  have hb1 : Ent.Bnd kR1 := bnd_plain _ (by decide) (by decide) (by decide) (by decide) rfl rfl
  have hb2 : Ent.Bnd kR2 := bnd_plain _ (by decide) (by decide) (by decide) (by decide) rfl rfl
  have hb3 : Ent.Bnd kR3 := bnd_plain _ (by decide) (by decide) (by decide) (by decide) rfl rfl
  refine ⟨rfl, fun _ => ⟨_, _, rfl, fun i hi => ?_⟩⟩
  rcases i with _ | _ | _ | i
  · refine ⟨none, none, 0, 0, EntV.nil _ _ rfl rfl hb1, fun j v hv => ?_⟩
    have hj : j < 11 := (List.getElem?_eq_some_iff.1 hv).1
    rw [hL.cell, ← hv]
    show (evs kR1 nilV nilV ++ evs kR2 nilV nilV ++ evs kR3 nilV nilV)[0 + 0 * 11 + j]? = _
    rcases j with _ | _ | _ | _ | _ | _ | _ | _ | _ | _ | _ | j <;> first | rfl | omega
  · refine ⟨none, none, 0, 0, EntV.nil _ _ rfl rfl hb2, fun j v hv => ?_⟩
    have hj : j < 11 := (List.getElem?_eq_some_iff.1 hv).1
    rw [hL.cell, ← hv]
    show (evs kR1 nilV nilV ++ evs kR2 nilV nilV ++ evs kR3 nilV nilV)[0 + 1 * 11 + j]? = _
    rcases j with _ | _ | _ | _ | _ | _ | _ | _ | _ | _ | _ | j <;> first | rfl | omega
  · refine ⟨none, none, 0, 0, EntV.nil _ _ rfl rfl hb3, fun j v hv => ?_⟩
    have hj : j < 11 := (List.getElem?_eq_some_iff.1 hv).1
    rw [hL.cell, ← hv]
    show (evs kR1 nilV nilV ++ evs kR2 nilV nilV ++ evs kR3 nilV nilV)[0 + 2 * 11 + j]? = _
    rcases j with _ | _ | _ | _ | _ | _ | _ | _ | _ | _ | _ | j <;> first | rfl | omega
  · exact absurd hi (by simp)

set_option maxRecDepth 100000 in
set_option maxHeartbeats 4000000 in
theorem known_any (w : World) : Calls Try.prog 12 #[] w fun e w' => e = .returned (.bool true) ∧ Below w.heap.size w w' := by
  have c1 : ∀ W, Calls Try.prog 14 #[.agg #[.int .i64 5, .int .u64 7, .int .u32 2, .int .u32 258, .int .i64 0, .bool false, .int .i64 0, .int .i64 1, .int .u64 0, .slice none 0 0, .slice none 0 0]] W (PutPost kE W) := fun W => put_any kE none none 0 0 W kE_bnd (EntV.nil W kE rfl rfl kE_bnd).txt
  unfold PutPost at c1
  rw [kE_chk, kE_put] at c1
  have C1 := Lib.hid c1
  have c3 : ∀ (W : World) (h : Nat), W.heap.size = h → Calls Try.prog 26 #[.slice (some ⟨h, 0, none⟩) 3 3] (W.alloc (.cells #[.int .i64 1, .int .u64 3, .int .u32 1, .int .u32 0, .int .i64 0, .bool false, .int .i64 0, .int .i64 0, .int .u64 0, .slice none 0 0, .slice none 0 0, .int .i64 6, .int .u64 4, .int .u32 1, .int .u32 0, .int .i64 0, .bool false, .int .i64 0, .int .i64 2, .int .u64 0, .slice none 0 0, .slice none 0 0, .int .i64 6, .int .u64 6, .int .u32 1, .int .u32 0, .int .i64 0, .bool false, .int .i64 0, .int .i64 2, .int .u64 0, .slice none 0 0, .slice none 0 0] 26)) (RowPost (W.alloc (.cells #[.int .i64 1, .int .u64 3, .int .u32 1, .int .u32 0, .int .i64 0, .bool false, .int .i64 0, .int .i64 0, .int .u64 0, .slice none 0 0, .slice none 0 0, .int .i64 6, .int .u64 4, .int .u32 1, .int .u32 0, .int .i64 0, .bool false, .int .i64 0, .int .i64 2, .int .u64 0, .slice none 0 0, .slice none 0 0, .int .i64 6, .int .u64 6, .int .u32 1, .int .u32 0, .int .i64 0, .bool false, .int .i64 0, .int .i64 2, .int .u64 0, .slice none 0 0, .slice none 0 0] 26)) [kR1, kR2, kR3]) := fun W h e => by subst e; exact row_any _ 3 3 _ _ (kR_ents W) (by unfold maxLen; omega)
  have C3 := Lib.hid c3
  have c5 : ∀ W : World, Calls Try.prog 15 #[.agg #[.int .i64 0, .int .u64 0, .int .u32 0, .int .u32 0, .int .i64 0, .bool false, .int .i64 0, .int .i64 0, .int .u64 0, .slice none 0 0, .slice none 0 0]] W (ChkPost Ent.zero W) := fun W => check_any Ent.zero none none 0 0 W
  unfold ChkPost at c5
  rw [zero_chk] at c5
  have C5 := Lib.hid c5
  clear c1 c3 c5
  go_enter Try.func12, Try.ntmps12
  go_wp2_with fail
  with_reducible refine (C1.out _).mono ?_
  rintro x w1 ⟨v1, rfl, hO1, hb1⟩
  obtain ⟨A1, c1, rfl, hB1, _, _, _⟩ := hO1.slice
  rw [show kB.length = 18 from rfl] at *
  have r1 := run_str hB1 c1
  have r2 : ((str kB).toList == ([5, 0, 0, 0, 0, 0, 0, 0, 7, 0, 0, 0, 2, 0, 0, 1, 2, 1] : List UInt8)) = true := by rw [str_toList]; rfl
  have L1 := Lib.hid ((Lies.made w 26 (evs kE nilV nilV)).below hb1 (by simp))
  have BB1 := Lib.hid (((Below.refl w.heap.size w).alloc (Nat.le_refl _) (.cells (evs kE nilV nilV) 26)).trans (hb1.mono (by simp)))
  have HB1 := Lib.hid hB1
  have C2 := Lib.hid (get_any A1 18 c1 kB w1 hB1 (by omega))
  clear r1 hO1 hB1 hb1 C1
  go_wp2_with fail
  with_reducible refine C2.out.mono ?_
  intro x w2 hp2
  obtain ⟨K, D, rfl, hK, hD, _, hb2⟩ := hp2.of_some kE_get
  clear hp2
  obtain ⟨A2, c2, rfl, hKB, hKc, hKm, hKA⟩ := hK.slice
  obtain ⟨A3, c3, rfl, hDB, hDc, hDm, hDA⟩ := hD.slice
  have hV : EntV w2 kE A2 A3 c2 c3 := ⟨hKB, hKc, hKm, hKA, hDB, hDc, hDm, hDA, kE_bnd⟩
  have HV := Lib.hid hV
  rw [show evs kE (.slice A2 kE.key.length c2) (.slice A3 kE.data.length c3) = #[.int .i64 5, .int .u64 7, .int .u32 2, .int .u32 258, .int .i64 0, .bool false, .int .i64 0, .int .i64 1, .int .u64 0, .slice A2 0 c2, .slice A3 0 c3] from rfl]
  have L2 := Lib.hid (L1.out.below hb2 L1.out.lt)
  have BB2 := Lib.hid (BB1.out.trans (hb2.mono BB1.out.size))
  have HBb2 := Lib.hid (HB1.out.below hb2)
  clear hV hK hD hKB hDB hKA hDA hKc hDc hKm hDm hb2 C2 L1 BB1
  go_wp2_with fail
  (with_reducible refine (C3.out _ _ ?hh).mono ?_)
  case hh => exact size_one _ _
  rintro x w3 ⟨m, hm, rfl, hb3⟩
  obtain rfl := hm.uniq kR_row
  rw [show ((2 : Nat) : Int) = 2 from rfl, show ((Ent.rowE [kR1, kR2, kR3] 2 : Nat) : Int) = 41 from rfl]
  have LX : Lies w3 w2.heap.size 26 (evs kE (.slice A2 0 c2) (.slice A3 0 c3)) := ((Lies.made w2 26 _).alloc _).below hb3 (by simp; omega)
  have L3 := (((L2.out.alloc _).alloc _).below hb3 (Nat.lt_of_lt_of_le L2.out.lt (by simp; omega)))
  have BB3 := (((BB2.out.alloc BB2.out.size _).alloc (Nat.le_trans BB2.out.size (by simp)) _).trans (hb3.mono (Nat.le_trans BB2.out.size (by simp; omega))))
  have HV3 := (((HV.out.below ((Below.refl _ _).alloc (Nat.le_refl _) _)).below ((Below.refl _ _).alloc (Nat.le_refl _) _)).below hb3)
  have HB3 := (((HBb2.out.below ((Below.refl _ _).alloc (Nat.le_refl _) _)).below ((Below.refl _ _).alloc (Nat.le_refl _) _)).below hb3)
  have r1 := run_str HB3 c1
  have f : w3.cell? ⟨w.heap.size, 0, none⟩ = some (.int .i64 5) ∧ w3.cell? ⟨w.heap.size, 1, none⟩ = some (.int .u64 7) ∧ w3.cell? ⟨w.heap.size, 2, none⟩ = some (.int .u32 2) ∧ w3.cell? ⟨w.heap.size, 3, none⟩ = some (.int .u32 258) ∧ w3.cell? ⟨w.heap.size, 4, none⟩ = some (.int .i64 0) ∧ w3.cell? ⟨w.heap.size, 5, none⟩ = some (.bool false) ∧ w3.cell? ⟨w.heap.size, 6, none⟩ = some (.int .i64 0) ∧ w3.cell? ⟨w.heap.size, 7, none⟩ = some (.int .i64 1) ∧ w3.cell? ⟨w.heap.size, 8, none⟩ = some (.int .u64 0) ∧ w3.cell? ⟨w.heap.size, 9, none⟩ = some (.slice none 0 0) ∧ w3.cell? ⟨w.heap.size, 10, none⟩ = some (.slice none 0 0) := L3.cellsE
  obtain ⟨f0, f1, f2, f3, f4, f5, f6, f7, f8, f9, f10⟩ := f
  have g : w3.cell? ⟨w2.heap.size, 0, none⟩ = some (.int .i64 5) ∧ w3.cell? ⟨w2.heap.size, 1, none⟩ = some (.int .u64 7) ∧ w3.cell? ⟨w2.heap.size, 2, none⟩ = some (.int .u32 2) ∧ w3.cell? ⟨w2.heap.size, 3, none⟩ = some (.int .u32 258) ∧ w3.cell? ⟨w2.heap.size, 4, none⟩ = some (.int .i64 0) ∧ w3.cell? ⟨w2.heap.size, 5, none⟩ = some (.bool false) ∧ w3.cell? ⟨w2.heap.size, 6, none⟩ = some (.int .i64 0) ∧ w3.cell? ⟨w2.heap.size, 7, none⟩ = some (.int .i64 1) ∧ w3.cell? ⟨w2.heap.size, 8, none⟩ = some (.int .u64 0) ∧ w3.cell? ⟨w2.heap.size, 9, none⟩ = some (.slice A2 0 c2) ∧ w3.cell? ⟨w2.heap.size, 10, none⟩ = some (.slice A3 0 c3) := LX.cellsE
  obtain ⟨g0, g1, g2, g3, g4, g5, g6, g7, g8, g9, g10⟩ := g
  have c4 : Calls Try.prog 23 #[.agg #[.int .i64 5, .int .u64 7, .int .u32 2, .int .u32 258, .int .i64 0, .bool false, .int .i64 0, .int .i64 1, .int .u64 0, .slice none 0 0, .slice none 0 0], .agg #[.int .i64 5, .int .u64 7, .int .u32 2, .int .u32 258, .int .i64 0, .bool false, .int .i64 0, .int .i64 1, .int .u64 0, .slice A2 0 c2, .slice A3 0 c3]] w3 fun x w' => x = .returned (.bool (sameE kE kE)) ∧ Below w3.heap.size w3 w' := same4_any kE kE none none A2 A3 0 0 c2 c3 w3 (EntV.nil w3 kE rfl rfl kE_bnd) HV3
  rw [sameE_self] at c4
  have C4 := Lib.hid c4
  have BB3' := Lib.hid BB3
  clear c4 BB3 HV3 HB3 LX L3 hb3 C3 hm
  go_wp2_with fail
  with_reducible refine C4.out.mono ?_
  rintro x w4 ⟨rfl, hb4⟩
  go_wp2_with fail
  with_reducible refine (C5.out _).mono ?_
  rintro x w5 ⟨rfl, hb5⟩
  go_wp2
  go_ret
  exact ⟨rfl, BB3'.out.trans ((hb4.trans (hb5.mono hb4.size)).mono BB3'.out.size)⟩

end Go.Proofs.Ytccpmalefdnhdaa
