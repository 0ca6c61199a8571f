/-
  The contract of the reference's Hold.
-/
import Derived.Test.YtimoobhnhldgbaaRefF
import Derived.Test.YtimoobhnhldgbaaIn9
namespace Go.Proofs.Ytimoobhnhldgbaa
open Go.Proofs Go.RowKit
set_option maxRecDepth 100000
set_option linter.unusedVariables false
set_option linter.unusedSimpArgs false

def fitsG (x : List UInt8) (n : Int) (y : Gd) : Bool := decide (y.n = x) && decide (n ≤ y.f)
def rholdV (r : Rs) (o : Nat) (x : List UInt8) (n : Int) : Bool := o != 0 && decide (1 ≤ n) && decide (atN r.L o < 0) && (rgoods r).any (fitsG x n)
def rholdS (r : Rs) (o : Nat) (x : List UInt8) (n : Int) : Rs := if rholdV r o x n = true then ⟨r.F, r.L ++ [⟨o, x, n⟩], r.A⟩ else r
def RoI (G : List Gd) (x : List UInt8) (n : Int) (w1 : World) (v11 : Value) (wr : World) : Prop := ∃ k : Nat, k ≤ G.length ∧ v11 = .int .i64 (k : Int) ∧ (∀ (j : Nat) (hj : j < G.length), j < k → fitsG x n G[j] = false) ∧ wr = w1

theorem ro_no {w w' : World} {B g : Nat} {vF vL vA : Value} {r : Rs} {o : Nat} {x : List UInt8} {n : Int} (hv : rholdV r o x n = false) (h : RAt w B g vF vL vA r) (hb : Below w.heap.size w w') : RcPost w B g vF vL vA (rholdV r o x n) (rholdS r o x n) (.returned (.int .i64 2)) w' := by
  unfold rholdS
  rw [hv, if_neg (by decide)]
  exact rc_same h hb

set_option maxHeartbeats 8000000 in
theorem rhold_any (B g : Nat) (vF vL vA : Value) (r : Rs) (o : Nat) (x : List UInt8) (n : Int) (w : World) (h : RAt w B g vF vL vA r) (hF : FOk r.F) (hL : SumOk r.L) (hA : SumOk r.A) (hB : B ≤ w.heap.size) :
    Calls Try.prog 14 #[.pointer (some ⟨g, 0, none⟩), .int .u32 (o : Int), encStr x, .int .i64 n] w (RcPost w B g vF vL vA (rholdV r o x n) (rholdS r o x n)) := by
  have H := Lib.hid h
  have HBB := Lib.hid hB
  have CAT := Lib.hid (at_any B g vF vL vA r o w h hL.1)
  have CG := Lib.hid (rgoods_any B g vF vL vA r w h hF hL hA)
  have HLL := Lib.hid hL.1
  have HFL := Lib.hid hF.1
  clear h hF hL hA hB
  obtain ⟨p, hp⟩ : ∃ z, atN r.L o = z := ⟨_, rfl⟩
  rw [hp] at CAT
  by_cases h0 : o = 0
  · have hv : rholdV r o x n = false := by unfold rholdV; rw [h0]; rfl
    have HV := Lib.hid hv
    subst h0
    have CAT0 : Hid (Calls Try.prog 29 #[.pointer (some ⟨g, 0, none⟩), .int .u32 0] w fun e w' => e = .returned (.int .i64 p) ∧ w = w') := CAT
    clear hv
    go_enter Try.func14, Try.ntmps14
    go_wp2_with fail
    with_reducible refine CAT0.out.mono ?_
    rintro e w' ⟨rfl, rfl⟩
    go_wp2
    go_ret
    exact ro_no HV.out H.out (Below.refl _ _)
  have e0 : (((o : Int) == 0) : Bool) = false := beq_eq_false_iff_ne.2 (by omega)
  by_cases h1 : n < 1
  · have hv : rholdV r o x n = false := by unfold rholdV; rw [show decide (1 ≤ n) = false from by simp; omega]; simp
    have HV := Lib.hid hv
    clear hv
    go_enter Try.func14, Try.ntmps14
    go_wp2_with fail
    with_reducible refine CAT.out.mono ?_
    rintro e w' ⟨rfl, rfl⟩
    go_wp2
    go_ret
    exact ro_no HV.out H.out (Below.refl _ _)
  have e1 : decide (n < 1) = false := by simpa using h1
  by_cases h2 : 0 ≤ p
  · have hv : rholdV r o x n = false := by unfold rholdV; rw [hp, show decide (p < 0) = false from by simp; omega]; simp
    have HV := Lib.hid hv
    clear hv
    go_enter Try.func14, Try.ntmps14
    go_wp2_with fail
    with_reducible refine CAT.out.mono ?_
    rintro e w' ⟨rfl, rfl⟩
    go_wp2
    go_ret
    exact ro_no HV.out H.out (Below.refl _ _)
  have e2 : decide (0 ≤ p) = false := by simpa using h2
  have HVE : Hid (rholdV r o x n = (rgoods r).any (fitsG x n)) := Lib.hid (by
    unfold rholdV
    rw [show (o != 0) = true from by simpa using h0, show decide (1 ≤ n) = true from by simp; omega, hp, show decide (p < 0) = true from by simp; omega]
    simp)
  have HGL : Hid ((rgoods r).length = r.F.length) := Lib.hid (by simp [rgoods])
  clear hp h1 h2
  go_enter Try.func14, Try.ntmps14
  go_wp2_with fail
  with_reducible refine CAT.out.mono ?_
  rintro e w' ⟨rfl, rfl⟩
  go_wp2_with fail
  with_reducible refine CG.out.mono ?_
  rintro e w1 ⟨v, rfl, hO, hb⟩
  have HO := Lib.hid hO
  have HB1 := Lib.hid hb
  clear hO hb CAT CG
  obtain ⟨G, hG⟩ : ∃ z, rgoods r = z := ⟨_, rfl⟩
  rw [hG] at HO HVE HGL
  clear hG
  obtain ⟨A1, c1, rfl, hGin, -⟩ := HO.out.gin
  have HGI := Lib.hid hGin
  have hz : (G.length : Int) ≤ 1000 := by have := HGL.out; have := HFL.out; omega
  have HR1 := Lib.hid (H.out.below HB1.out)
  obtain ⟨c0, c11, c2⟩ := HR1.out.c.cells3
  clear hGin
  go_wp2_with fail
  go_loopw [11] (fun v11 wr => RoI G x n w1 v11 wr) (fun i _ => G.length - (intOf i).toNat)
  case atStart => exact ⟨0, by omega, rfl, fun j hj h => by omega, rfl⟩
  case round =>
    obtain ⟨k, hk, rfl, hall, rfl⟩ := hrel
    have HALL := Lib.hid hall
    clear hall
    by_cases hlt : k < G.length
    · have hlt2 : (k : Int) < (G.length : Int) := by omega
      obtain ⟨b0, o0, rfl, hb0, hcell⟩ := HGI.out.2 (by omega)
      obtain ⟨y0, y1⟩ := hcell k hlt
      obtain ⟨yy, hyy⟩ : ∃ z, G[k] = z := ⟨_, rfl⟩
      rw [hyy] at y0 y1
      have HYY := Lib.hid hyy
      clear hcell hyy
      obtain ⟨yn, yf⟩ := yy
      dsimp only at y0 y1
      by_cases hn : yn = x
      · subst hn
        by_cases hf : n ≤ yf
        · have HVT : Hid (rholdV r o yn n = true) := Lib.hid (by
            rw [HVE.out, List.any_eq_true]
            exact ⟨⟨yn, yf⟩, HYY.out ▸ List.getElem_mem hlt, by simp [fitsG, hf]⟩)
          have HO3 : Hid (OwnR (wr.alloc (.cells #[.int .u32 (o : Int), encStr yn, .int .i64 n] 48)) B vL r.L) := Lib.hid (HR1.out.l.alloc _)
          have HR3 := Lib.hid (HR1.out.alloc (.cells #[.int .u32 (o : Int), encStr yn, .int .i64 n] 48))
          have LN := Lib.hid (Lies.made wr 48 #[.int .u32 (o : Int), encStr yn, .int .i64 n])
          have HSM : Hid (r.L.length ≤ 100000) := Lib.hid (by have := HLL.out; omega)
          have HBZ : Hid (B ≤ (wr.alloc (.cells #[.int .u32 (o : Int), encStr yn, .int .i64 n] 48)).heap.size) := Lib.hid (by rw [size_one]; have := HBB.out; have := HB1.out.size; omega)
          have HBW := Lib.hid ((HB1.out.alloc HB1.out.size (.cells #[.int .u32 (o : Int), encStr yn, .int .i64 n] 48)))
          go_wp2_with (first
            | ((with_reducible refine wpl_appH (some 59) _ _ _ (.tmp 53) (.tmp 58) B vL r.L wr.heap.size o yn n ?hs ?hx HO3.out LN.out HSM.out HBZ.out ?_); (case hs => rfl); (case hx => rfl); (intro v4 w4 ho4 hg4 hb4; (have HL4 := Lib.hid (HR3.out.c.same (hg4.block g HR3.out.c.lt (fun e => HR3.out.l.ne_lies HR3.out.c (by decide) g e.symm rfl)))); (have HO4 := Lib.hid ho4); (have HG4 := Lib.hid hg4); (have HB4 := Lib.hid hb4); (have HONE := Lib.hid ho4.one); clear ho4 hg4 hb4))
            | ((with_reducible refine wpl_putC none _ _ _ 40 (.tmp 61) (.tmp 59) g 1 65 _ v4 ?px ?py HL4.out ?pi ?ps HONE.out ?_); (case px => rfl); (case py => rfl); (case pi => simp); (case ps => kernel_rfl); (intro w5 hp5; (have HP5 := Lib.hid hp5); clear hp5)))
          go_ret
          have hq := HR3.out.putL HBZ.out HO4.out HG4.out HB4.out HP5.out
          refine ⟨by rw [HVT.out]; rfl, v4, vA, ?_, ?_⟩
          · unfold rholdS
            rw [if_pos HVT.out]
            exact hq.1
          · have hb := HBW.out
            exact ⟨hq.2.os.trans hb.os, hq.2.tape.trans hb.tape, hq.2.output.trans hb.output, Nat.le_trans hb.size hq.2.size, fun k hk h1 h2 h3 => (hq.2.block k (Nat.lt_of_lt_of_le hk hb.size) h1 h2 h3).trans (hb.block k hk)⟩
        · have hf2 : decide (n ≤ yf) = false := by simpa using hf
          go_wp2
          go_roundw
          case rel =>
            refine ⟨k + 1, by omega, by go_num, fun j hj h => ?_, rfl⟩
            by_cases e : j = k
            · subst e; rw [HYY.out]; simp [fitsG]; omega
            · exact HALL.out j hj (by omega)
          case measure => simp [intOf]; omega
      · have hn2 : decide (yn = x) = false := by simpa using hn
        have hn3 : (yn == x) = false := by simpa using hn
        go_wp2
        go_roundw
        case rel =>
          refine ⟨k + 1, by omega, by go_num, fun j hj h => ?_, rfl⟩
          by_cases e : j = k
          · subst e; rw [HYY.out]; simp [fitsG, hn]
          · exact HALL.out j hj (by omega)
        case measure => simp [intOf]; omega
    · have hlt2 : decide ((k : Int) < (G.length : Int)) = false := by simp; omega
      have HV : Hid (rholdV r o x n = false) := Lib.hid (by
        rw [HVE.out, List.any_eq_false]
        intro y hy
        obtain ⟨j, hj, rfl⟩ := List.getElem_of_mem hy
        rw [HALL.out j hj (by omega)]
        decide)
      go_wp2
      go_ret
      exact ro_no HV.out H.out HB1.out

end Go.Proofs.Ytimoobhnhldgbaa
