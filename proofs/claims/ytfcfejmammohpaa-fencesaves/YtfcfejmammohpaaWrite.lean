/-
  The contracts of package field's writer: U8, U64, Text.
-/
import Derived.Test.YtfcfejmammohpaaLend
import Derived.Deep.RegionHeld3
namespace Go.Proofs.Ytfcfejmammohpaa
open Go.RowKit
set_option maxRecDepth 100000

set_option maxHeartbeats 400000 in
theorem wu8_any (p B n : Nat) (l : List Nat) (w : World) (hW : Wr w p B l) (hn : n < 256) (hl : l.length ≤ 200000) :
    Calls Try.prog 54 #[.pointer (some ⟨p, 0, none⟩), .int .u8 n] w (WrPost w p B (l ++ Ent.be 1 n)) := by
  have HW := Lib.hid hW
  clear hW
  have c2 := wnumber_any p B n 1 l w HW.out (by omega) hl
  rw [show ((1 : Nat) : Int) = 1 from rfl] at c2
  have C2 := Lib.hid c2
  clear c2
  go_enter Try.func54, Try.ntmps54
  go_wp2_with fail
  with_reducible refine C2.out.mono ?_
  rintro e w2 ⟨rfl, hW2, hb2⟩
  go_wp2
  go_ret
  exact ⟨rfl, hW2, hb2⟩

/-- The bytes lie below B. -/
def Low (B : Nat) (A : Option Addr) (n : Nat) : Prop := 0 < n → ∃ b off, A = some ⟨b, off, none⟩ ∧ b < B
theorem Bys.belowB {w w' : World} {B : Nat} {a : Option Addr} {n : Nat} {l : List Nat} (h : Bys w a n l) (hlow : Low B a n) (hb : Below B w w') : Bys w' a n l := by
  obtain ⟨h1, h2, h3⟩ := h
  refine ⟨h1, h2, fun h0 => ?_⟩
  obtain ⟨b, off, e, hc⟩ := h3 h0
  obtain ⟨b', off', e', hlt⟩ := hlow h0
  rw [e] at e'
  injection e' with e'
  injection e' with e1 e2 _
  subst e1 e2
  exact ⟨b, off, e, fun i hi => (hb.cell (p := ⟨b, off + i, none⟩) hlt).trans (hc i hi)⟩
theorem Bys.low {w : World} {a : Option Addr} {n : Nat} {l : List Nat} (h : Bys w a n l) {B : Nat} (hB : w.heap.size ≤ B) : Low B a n := fun h0 => by
  obtain ⟨b, off, e, hc⟩ := h.2.2 h0
  have := block_lt_of_cell (hc 0 h0)
  exact ⟨b, off, e, by simp at this; omega⟩

set_option maxHeartbeats 1000000 in
theorem wtext_any (p B : Nat) (l s : List Nat) (A : Option Addr) (n cap : Nat) (w : World) (hW : Wr w p B l) (hB : Bys w A n s) (hlow : Low B A n) (hA : A = none → cap = 0) (hn : n ≤ 255) (hl : l.length ≤ 200000) :
    Calls Try.prog 81 #[.pointer (some ⟨p, 0, none⟩), .slice A n cap] w (WrPost w p B (l ++ Ent.txt s)) := by
  obtain ⟨hBp, v0, hL0, hO0⟩ := hW
  have hc1 := hL0.cell 1
  have hc0 := hL0.cell 0
  have hBw : B ≤ w.heap.size := Nat.le_trans hBp (Nat.le_of_lt hL0.lt)
  have hc0a := (hL0.alloc (.cells #[.int .u8 (n : Nat)] 5)).cell 0
  have HL := Lib.hid hL0
  have HO := Lib.hid hO0
  have HB := Lib.hid hB
  have HA := Lib.hid hA
  have HLOW := Lib.hid hlow
  have HLEN := Lib.hid hB.1
  clear hL0 hO0 hB hA hlow
  go_enter Try.func81, Try.ntmps81
  go_wp2_with (first
    | ((with_reducible refine wpl_append (some 33) _ _ _ (.tmp 28) (.tmp 32) B v0 l (some ⟨w.heap.size, 0, none⟩) 1 1 [n] ?hs ?hx (HO.out.alloc _) (Bys.const w _ [n] (0, 0) 1 rfl rfl ?hb) ?ha ?hm ?hz ?_); (case hs => rfl); (case hx => rfl); (case hb => (simp; omega)); (case ha => (intro h; cases h)); (case hm => omega); (case hz => exact Nat.le_trans hBw (by simp)); (intro v1 w1 ho1 hg1 hv1); (obtain ⟨Ax, cx, hvx, _, _, _, _⟩ := ho1.slice); (obtain ⟨q, hq⟩ : ∃ q, (l ++ [n]).length = q := ⟨_, rfl⟩); (rw [hq] at hvx); (have HQ := Lib.hid hq); (clear hq); (subst hvx); (have hL1 := Lies.grown (HL.out.alloc _) hg1 (HO.out.ne HL.out (by decide))); (have hd0 := hL1.cell 0); (have hd1 := hL1.free 0); (have hL2 := hL1.put 0 (.slice Ax q cx)); (have hd2 := hL2.cell 0); (have hd3 := hL2.free 0); (have hO2 := ho1.setOther (a := ⟨p, 0, none⟩) (ho1.ne hL1 (by decide)) (.slice Ax q cx)); (have hb1 := ((HO.out.alloc _).grows hg1 ((Below.refl B _).alloc hBw _) (Nat.le_refl _) (Nat.le_trans hBw (by simp))).setCell (p := ⟨p, 0, none⟩) hBp (.slice Ax q cx)); (have HO2 := Lib.hid hO2); (have HL2 := Lib.hid hL2); (have HK2 := Lib.hid ((((Keep.refl w).alloc _).grown (HO.out.alloc _) hg1).put hL1 0 (.slice Ax q cx))); (have HB2 := Lib.hid (HB.out.belowB HLOW.out hb1)); (have HBB := Lib.hid hb1); (clear hL1 hL2 hO2 ho1 hg1 hv1 hb1))
    | ((with_reducible refine wpl_append (some 42) _ _ _ (.tmp 40) (.tmp 41) B _ (l ++ [n]) A n cap s ?hs ?hx HO2.out HB2.out HA.out ?hm ?hz ?_); (case hs => rfl); (case hx => rfl); (case hm => (rw [List.length_append]; simp; omega)); (case hz => exact Nat.le_trans hBw HBB.out.size); (intro v3 w3 ho3 hg3 hv3); (obtain ⟨Ay, cy, hvy, _, _, _, _⟩ := ho3.slice); (obtain ⟨q3, hq3⟩ : ∃ q, (l ++ [n] ++ s).length = q := ⟨_, rfl⟩); (rw [hq3] at hvy); (clear hq3); (subst hvy); (have hL3 := Lies.grown HL2.out hg3 (HO2.out.ne HL2.out (by decide))); (have hd4 := hL3.cell 0); (have hd5 := hL3.free 0); (have HO3 := Lib.hid ho3); (have HL3 := Lib.hid hL3); (have HG3 := Lib.hid hg3); (clear hL3 ho3 hg3 hv3)))
  go_ret
  refine ⟨rfl, ⟨hBp, _, HL3.out.put 0 _, ?_⟩, ?_, (HK2.out.grown HO2.out HG3.out).put HL3.out 0 _⟩
  · have e : l ++ Ent.txt s = l ++ [n] ++ s := by unfold Ent.txt; rw [HLEN.out, Ent.be_one n (by omega), List.append_assoc]
    rw [e]
    exact HO3.out.setOther (a := ⟨p, 0, none⟩) (HO3.out.ne HL3.out (by decide)) _
  · exact (HO2.out.grows HG3.out HBB.out (Nat.le_refl _) (Nat.le_trans hBw HBB.out.size)).setCell (p := ⟨p, 0, none⟩) hBp _

end Go.Proofs.Ytfcfejmammohpaa
