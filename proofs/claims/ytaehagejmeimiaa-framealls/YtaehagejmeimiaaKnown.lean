/-
  The contract of 'known': the chapter's examples hold: it returns true.
-/
import Derived.Test.YtaehagejmeimiaaSame
namespace Go.Proofs.Ytaehagejmeimiaa
open Go.RowKit

def k0 : List Nat := [215, 166, 0, 0, 65, 217, 18, 255]
def k1 : List Nat := [215, 166, 0, 0, 65, 217, 18, 255, 0]
def k2 : List Nat := [215, 166, 0, 0, 65, 217, 18, 0, 0]
theorem frm_nil : Frm.frm [] = k0 := by decide +kernel
theorem opn_k2 : Frm.opn k2 = none := by decide +kernel
theorem k1_row : k1 = Frm.row [[]] ++ [0] := by rw [Frm.row_cons, Frm.row_nil, frm_nil]; rfl
theorem k2_row : k2 = Frm.row [] ++ k2 := rfl
theorem short_nil : Frm.Short [] := fun x hx => by simp at hx
theorem short_one : Frm.Short [[]] := fun x hx => by simp at hx; subst hx; simp

theorem LRow.setOther {w : World} {B : Nat} {v : Value} {vs : List Value} (h : LRow w B v vs) {a : Addr} (ha : a.block < B) (u : Value) : LRow (w.setCell a u) B v vs := by
  obtain ⟨h0, h1⟩ := h
  refine ⟨h0, ?_⟩
  rcases h1 with h1 | ⟨g, cap, cur, hv, hg0, hg, hr⟩
  · exact .inl h1
  · exact .inr ⟨g, cap, cur, hv, hg0, Lies.other hg (by omega) u, hr⟩
theorem Split.uniq {l : List Nat} {ls ms : List (List Nat)} {r s : List Nat} (h : Split l ls r) (hr : Frm.opn r = none) (hs : Frm.opn s = none) (hm : Frm.Short ms) (e : l = Frm.row ms ++ s) : ls = ms ∧ r = s :=
  Frm.row_uniq ls ms r s h.short hm hr hs (by rw [← h.eq, ← e])

set_option maxHeartbeats 1000000 in
theorem known_any (w : World) : Calls Try.prog 11 #[] w fun e w' => e = .returned (.bool true) ∧ Below w.heap.size w w' := by
  go_enter Try.func11, Try.ntmps11
  go_wp2_with fail
  with_reducible refine (put_any _ _ _ [] _ (Bys.none_ _) (fun _ => rfl) (by omega)).mono ?_
  rintro e w1 ⟨v1, rfl, hO1, hb1⟩
  rw [frm_nil] at hO1
  obtain ⟨A1, c1, rfl, hB1, hc1, hm1, hA1⟩ := hO1.slice
  rw [show k0.length = 8 from rfl] at *
  have r1 := run_str hB1 c1
  have r2 : ((str k0).toList == ([215, 166, 0, 0, 65, 217, 18, 255] : List UInt8)) = true := by rw [str_toList]; rfl
  have HB1 := Lib.hid hB1
  have HA1 := Lib.hid hA1
  clear hO1 hB1 hA1
  go_wp2_with fail
  with_reducible refine (copy_any _ _ _ _ _ HB1.out HA1.out (by omega)).mono ?_
  rintro e w2 ⟨v2, rfl, hO2, hb2⟩
  have HO2 := Lib.hid hO2
  clear hO2 r1 r2 HB1 HA1
  go_wp2_with (first
    | ((with_reducible refine wpl_append (some 25) _ _ _ (.tmp 23) (.tmp 24) w1.heap.size v2 k0 (some ⟨w2.heap.size, 0, none⟩) 1 1 [0] ?hs ?hx (HO2.out.alloc _) (Bys.const w2 _ [0] (0, 0) 1 rfl rfl (by decide)) ?ha ?hm ?hz ?_); (case hs => rfl); (case hx => rfl); (case ha => (intro h; cases h)); (case hm => decide); (case hz => exact Nat.le_trans hb2.size (by simp)); (intro v3 w3 ho3 hg3 hv3)))
  have hb3 : Below w.heap.size w w3 := (HO2.out.alloc _).grows hg3 ((hb1.trans (hb2.mono hb1.size)).alloc (Nat.le_trans hb1.size hb2.size) _) hb1.size (Nat.le_trans hb1.size (Nat.le_trans hb2.size (by simp)))
  rw [show k0 ++ [0] = k1 from rfl] at ho3
  rcases ho3.form with ⟨_, h0⟩ | ⟨g, cx, cur, rfl, hgB, hgL, hgc, hgm, hgs, hcur⟩
  · cases h0
  have hBx := ho3.bys.1
  rw [show k1.length = 9 from rfl] at *
  have HO3 := Lib.hid ho3
  have HCUR := Lib.hid hcur
  have HGS := Lib.hid hgs
  have HGM := Lib.hid hgm
  have HGL := Lib.hid hgL
  have HBX := Lib.hid hBx
  clear ho3 hcur hg3 hv3 hgs hgL hBx
  go_wp2_with fail
  with_reducible refine (all_any _ _ _ _ _ HBX.out hgc HGM.out (by omega)).mono ?_
  rintro e w4 ⟨v4, vs4, ls4, r4, hS4, ho4, rfl, hR4, hOA4, hb4⟩
  obtain ⟨rfl, rfl⟩ := hS4.uniq ho4 (Frm.opn_zero []) short_one k1_row
  obtain ⟨u4, rfl⟩ : ∃ u, vs4 = [u] := List.length_eq_one_iff.1 hOA4.1
  obtain ⟨Au, cu, rfl, _⟩ := hOA4.reads.2 0 (by simp) (by simp)
  rw [show (Frm.row [[]]).length = 8 from by rw [Frm.row_cons, Frm.row_nil, frm_nil]; rfl, show Frm.endOf [0] = 0 from rfl]
  have hL4 := HGL.out.below hb4 HGL.out.lt
  have hlt7 : 7 < cur.size := by rw [HGS.out]; omega
  have hc7 := (hL4.cell 7).trans (Array.getElem?_eq_getElem hlt7)
  have hf7 := hL4.free 7
  have hL5 := hL4.put 7 (.int .u8 0)
  have hR5 := hR4.setOther (a := ⟨g, 7, none⟩) HGL.out.lt (.int .u8 0)
  have hBk2 : Bys (w4.setCell ⟨g, 7, none⟩ (.int .u8 0)) (some ⟨g, 0, none⟩) 9 k2 := by
    refine ⟨rfl, by decide, fun _ => ⟨g, 0, rfl, fun i hi => ?_⟩⟩
    rw [Nat.zero_add, hL5.cell, Array.getElem?_setIfInBounds]
    by_cases h7 : 7 = i
    · subst h7
      rw [if_pos rfl, if_pos hlt7]; rfl
    · rw [if_neg h7, HCUR.out i hi]
      have : ∀ i, i < 9 → ¬ 7 = i → k1.getD i 0 = k2.getD i 0 := by decide
      rw [this i hi h7]
  have HBK2 := Lib.hid hBk2
  have HR5 := Lib.hid hR5
  clear hS4 ho4 hR4 hOA4 hL5 hR5 hBk2 HBX
  go_wp2_with fail
  with_reducible refine (all_any _ _ _ _ _ HBK2.out hgc HGM.out (by omega)).mono ?_
  rintro e w6 ⟨v6, vs6, ls6, r6, hS6, ho6, rfl, hR6, hOA6, hb6⟩
  obtain ⟨rfl, rfl⟩ := hS6.uniq ho6 opn_k2 short_nil k2_row
  obtain rfl : vs6 = [] := List.eq_nil_of_length_eq_zero hOA6.1
  rw [show (Frm.row []).length = 0 from rfl, show Frm.endOf k2 = 31 from rfl]
  obtain ⟨A6, c6, rfl, _⟩ := hR6.slice
  obtain ⟨A4, c4, rfl, hC4, hc4, hm4, _⟩ := (HR5.out.belowRow hb6).slice
  obtain ⟨b4, o4, rfl, hcell⟩ := hC4.2 (by simp)
  have hce := hcell 0 (by simp)
  rw [show [Value.slice Au ([[]][0] : List Nat).length cu][0]? = some (.slice Au 0 cu) from rfl, Nat.add_zero] at hce
  rw [show [Value.slice Au ([[]][0] : List Nat).length cu].length = 1 from rfl, show ([] : List Value).length = 0 from rfl] at *
  have s3 : Calls Try.prog 18 #[.int .i64 3] w6 fun e w' => e = .returned (.int .i64 11) ∧ w6 = w' := size_yes 3 w6 (by omega)
  have s2001 : Calls Try.prog 18 #[.int .i64 2001] w6 fun e w' => e = .returned (.int .i64 0) ∧ w6 = w' := size_no 2001 w6 (by omega)
  have S3 := Lib.hid s3
  have S2001 := Lib.hid s2001
  have hbe : Below w.heap.size w w6 := by
    have h4 := hb3.trans (hb4.mono hb3.size)
    have h5 := h4.setCell (p := ⟨g, 7, none⟩) (Nat.le_trans hb1.size hgB) (.int .u8 0)
    exact h5.trans (hb6.mono h5.size)
  clear hcell hC4 hS6 ho6 hR6 hOA6 HBK2 HR5 s3 s2001 hc7 hf7 hL4
  go_wp2_with fail
  with_reducible refine S3.out.mono ?_
  rintro e w7 ⟨rfl, rfl⟩
  go_wp2_with fail
  with_reducible refine S2001.out.mono ?_
  rintro e w7 ⟨rfl, rfl⟩
  go_wp2
  go_ret
  exact ⟨rfl, hbe⟩

end Go.Proofs.Ytaehagejmeimiaa
