/-
  The walk of FrameBack, out of the contracts.
-/
import Derived.Test.YtaehagejmeimiaaRowOut
namespace Go.Proofs.Ytaehagejmeimiaa
open Go.RowKit

/-- Behind i frames that were got one by one. -/
def BkR (w5 : World) (good : List (List Nat)) (n : Nat) (x i : Value) (wr : World) : Prop :=
  ∃ k : Nat, k ≤ n ∧ i = .int .i64 k ∧ x = .int .i64 ((Frm.row (good.take k)).length : Nat) ∧ Below w5.heap.size w5 wr

theorem getS_at (good : List (List Nat)) (t : List Nat) (k : Nat) (hk : k < good.length) (hs : Frm.Short good) :
    Frm.getS (Frm.row good ++ t) ((Frm.row (good.take k)).length : Nat) = (good[k], (Frm.row (good.take (k + 1))).length, 0) := by
  have e : Frm.row good ++ t = Frm.row (good.take k) ++ (Frm.frm good[k] ++ (Frm.row (good.drop (k + 1)) ++ t)) := by
    conv => lhs; rw [← List.take_append_drop k good]
    rw [Frm.row_append, List.drop_eq_getElem_cons hk, Frm.row_cons]
    simp only [List.append_assoc]
  have ho := Frm.opn_frm good[k] (Frm.row (good.drop (k + 1)) ++ t) (hs _ (List.getElem_mem hk))
  rw [e, getS_row, if_neg, ho, row_take_len good k hk]
  simp [Frm.frm, Frm.head, List.getD]

set_option maxRecDepth 100000 in
set_option maxHeartbeats 2000000 in
theorem back_short (a : Option Addr) (na ca : Nat) (la : List (List Nat)) (b : Option Addr) (nb cb : Nat) (lb : List Nat) (w : World) (hA : InLists w a na ca la) (hB : InBytes w b nb cb lb) (hn : nb ≤ 6000) :
    Calls Try.prog 6 #[.slice a na ca, .slice b nb cb] w fun e w' => e = .returned (.bool true) ∧ Below w.heap.size w w' := by
  have HA := Lib.hid hA
  have HB := Lib.hid hB
  have HBN := Lib.hid hB.2.2.2
  clear hA hB
  go_enter Try.func6, Try.ntmps6
  go_wp2_with fail
  with_reducible refine (row_out _ _ _ _ _ HA.out).mono ?_
  rintro e w1 ⟨A1, L1, c1, G1, n1, d1, E1, f1, gvs1, good1, rfl, hR1⟩
  have HR1 := Lib.hid hR1
  clear hR1
  have b1 := HR1.out.bel
  have HB1 := Lib.hid (HB.out.1.below b1)
  have l1 := HR1.out.lenB
  have m1 := HR1.out.cntB
  go_wp2_with fail
  with_reducible refine (copy_any _ _ _ _ _ HR1.out.bys HR1.out.capB.2.2 (by omega)).mono ?_
  rintro e w2 ⟨v2, rfl, hO2, hb2⟩
  have HO2 := Lib.hid hO2
  clear hO2
  have HL1 := Lib.hid HR1.out.len
  obtain ⟨LZ, hLZ⟩ : ∃ LZ, (Frm.row good1 ++ [0] ++ lb).length = LZ := ⟨_, rfl⟩
  have hLZ2 : LZ ≤ 20000 := by rw [← hLZ, List.length_append, List.length_append, HL1.out, HB.out.1.1]; simp; omega
  have HLZ := Lib.hid hLZ
  clear hLZ
  go_wp2_with (first
    | ((with_reducible refine wpl_append (some 31) _ _ _ (.tmp 29) (.tmp 30) w1.heap.size v2 (Frm.row good1) (some ⟨w2.heap.size, 0, none⟩) 1 1 [0] ?hs ?hx (HO2.out.alloc _) (Bys.const w2 _ [0] (0, 0) 1 rfl rfl (by decide)) ?ha ?hm ?hz ?_); (case hs => rfl); (case hx => rfl); (case ha => (intro h; cases h)); (case hm => (rw [HL1.out]; omega)); (case hz => exact Nat.le_trans hb2.size (by simp)); (intro v3 w3 ho3 hg3 hv3); (have hb13 := (HO2.out.alloc _).grows hg3 (hb2.alloc hb2.size _) (Nat.le_refl _) (Nat.le_trans hb2.size (by simp))); (have HO3 := Lib.hid ho3); (have HB3 := Lib.hid (HB1.out.below hb13)); (clear ho3 hg3 hv3))
    | ((with_reducible refine wpl_append (some 34) _ _ _ (.tmp 32) (.tmp 33) w1.heap.size v3 (Frm.row good1 ++ [0]) b nb cb lb ?hs ?hx HO3.out HB3.out HBN.out ?hm hb13.size ?_); (case hs => rfl); (case hx => rfl); (case hm => (rw [List.length_append, HL1.out]; simp; omega)); (intro v4 w4 ho4 hg4 hv4); (obtain ⟨A4, c4, rfl, hB4, hc4, hm4, hz4⟩ := ho4.slice); (rw [HLZ.out] at hB4 hc4 ⊢); (have hb14 := HO3.out.grows hg4 hb13 (Nat.le_refl _) hb13.size); (have HB4 := Lib.hid hB4); (clear ho4 hg4 hv4 hB4 hz4)))
  have hb04 := b1.trans (hb14.mono b1.size)
  with_reducible refine (all_any _ _ _ _ _ HB4.out hc4 hm4 (by omega)).mono ?_
  rintro e w5 ⟨v5, vs5, ls5, r5, hS5, ho5, rfl, hR5, hOA5, hb5⟩
  have hrow : Frm.row good1 ++ [0] ++ lb = Frm.row good1 ++ (0 :: lb) := by rw [List.append_assoc]; rfl
  obtain ⟨hls, hrr⟩ := hS5.uniq ho5 (Frm.opn_zero lb) HR1.out.short hrow
  rw [hls, hrr, HL1.out, Frm.endOf_zero]
  rw [hls] at hOA5
  obtain ⟨A5, c5, rfl, hC5, hc5, hm5, hz5⟩ := hR5.slice
  have hb15 := hb14.trans (hb5.mono hb14.size)
  have hb05 := b1.trans (hb15.mono b1.size)
  have hX5 := HB4.out.below hb5
  rw [hrow] at hX5
  have HX5 := Lib.hid hX5
  have HC5 := Lib.hid hC5
  have HD5 := Lib.hid hOA5.reads
  have HCG := Lib.hid (HR1.out.cells.below hb15)
  have HDG := Lib.hid (HR1.out.reads.below hb15)
  have HNE := Lib.hid (HR1.out.ends.below hb15)
  clear hC5 hOA5 hS5 ho5 hls hrr hX5 hR5
  have g2 := HR1.out.capG.1
  have g3 := HR1.out.capG.2.1
  go_wp2_with fail
  with_reducible refine (sameLists_any _ _ _ _ _ _ _ _ _ _ _ HC5.out HCG.out HD5.out HDG.out (by omega) (by omega)).mono ?_
  rintro e w6 ⟨rfl, q, rfl⟩
  rw [sameLB_self]
  clear HC5 HD5
  go_wp2_with fail
  go_loopw [12, 13] (BkR w5 good1 n1) (fun _ i _ => n1 - (intOf i).toNat)
  case atStart => exact ⟨0, by omega, rfl, rfl, below_drewN (Below.refl _ _) q⟩
  case round =>
    obtain ⟨k, hk, rfl, rfl, hbel⟩ := hrel
    by_cases hlt : k < n1
    · have hkg : k < good1.length := by rw [HR1.out.cnt]; exact hlt
      have hkv : k < gvs1.length := by rw [HDG.out.1]; exact hkg
      obtain ⟨bb, off, rfl, hc⟩ := HCG.out.2 (by omega)
      obtain ⟨be, oe, rfl, hce⟩ := HNE.out.2 (by omega)
      have hck := hc k hlt
      rw [List.getElem?_eq_getElem hkv] at hck
      obtain ⟨Ax, cx, hv, hbx, _⟩ := HDG.out.2 k hkv hkg
      rw [hv] at hck
      have hek := hce k hlt
      rw [endsOf_at good1 k hkg] at hek
      have hget := getS_at good1 (0 :: lb) k hkg HR1.out.short
      have hle := row_take_le good1 (k + 1)
      rw [HR1.out.len] at hle
      generalize good1[k] = x at *
      generalize (Frm.row (good1.take k)).length = p at *
      generalize hp2 : (Frm.row (good1.take (k + 1))).length = p2 at *
      have HP2 := Lib.hid hp2
      have HGET := Lib.hid hget
      have HBX := Lib.hid hbx
      have HCK := Lib.hid hck
      have HEK := Lib.hid hek
      have HX6 := Lib.hid (HX5.out.below hbel)
      clear hc hce hv hck hek hbx hget hp2
      go_wp2_with fail
      with_reducible refine (get_any _ _ _ _ _ _ HX6.out hc4 hm4).mono ?_
      rintro e w7 ⟨u, rfl, hOu, hb7⟩
      rw [HGET.out] at hOu ⊢
      have hb57 := hbel.trans (hb7.mono hbel.size)
      have hc7 := (hb57.cell (block_lt_of_cell HCK.out)).trans HCK.out
      have he7 := (hb57.cell (block_lt_of_cell HEK.out)).trans HEK.out
      obtain ⟨Au, cu, rfl, hBu, _⟩ := hOu.slice
      have HBU := Lib.hid hBu
      have HBX7 := Lib.hid (HBX.out.below hb57)
      clear hOu hBu
      have i1 : (k : Int) < (n1 : Int) := by omega
      go_wp2_with fail
      with_reducible refine (same_any _ _ _ _ _ _ _ _ _ HBU.out HBX7.out).mono ?_
      rintro e w8 ⟨rfl, rfl⟩
      rw [sameB_self]
      go_wp2
      go_roundw
      case rel => exact ⟨k + 1, by omega, by go_num, val_int (by rw [HP2.out]), hb57⟩
      case measure => simp [intOf]; omega
    · have hkn : k = n1 := by omega
      subst hkn
      go_wp2_with fail
      with_reducible refine (known_any _).mono ?_
      rintro e w9 ⟨rfl, hb9⟩
      go_wp2
      go_ret
      have hb0r := hb05.trans (hbel.mono hb05.size)
      exact ⟨rfl, hb0r.trans (hb9.mono hb0r.size)⟩

set_option maxHeartbeats 400000 in
theorem back_long (a : Option Addr) (na ca : Nat) (b : Option Addr) (nb cb : Nat) (w : World) (hn : 6000 < nb) (hm : nb ≤ maxLen) :
    Calls Try.prog 6 #[.slice a na ca, .slice b nb cb] w fun e w' => e = .returned (.bool true) ∧ Below w.heap.size w w' := by
  unfold maxLen at hm
  go_enter Try.func6, Try.ntmps6
  go_wp2_with fail
  with_reducible refine (known_any _).mono ?_
  rintro e w2 ⟨rfl, hb⟩
  go_wp2
  go_ret
  exact ⟨rfl, hb⟩

theorem frameBack_walk (a : Option Addr) (na ca : Nat) (la : List (List Nat)) (b : Option Addr) (nb cb : Nat) (lb : List Nat) (w : World) (hA : InLists w a na ca la) (hB : InBytes w b nb cb lb) :
    Calls Try.prog 6 #[.slice a na ca, .slice b nb cb] w fun e w' => e = .returned (.bool true) ∧ Below w.heap.size w w' := by
  by_cases hn : nb ≤ 6000
  · exact back_short a na ca la b nb cb lb w hA hB hn
  · exact back_long a na ca b nb cb w (by omega) (by have := hB.2; omega)

end Go.Proofs.Ytaehagejmeimiaa
