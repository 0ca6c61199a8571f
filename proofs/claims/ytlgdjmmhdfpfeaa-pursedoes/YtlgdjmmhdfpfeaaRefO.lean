/-
  The contract of the reference's Hold.
-/
import Derived.Test.YtlgdjmmhdfpfeaaRefF
namespace Go.Proofs.Ytlgdjmmhdfpfeaa
open Go.Proofs Go.RowKit
set_option maxRecDepth 100000
set_option linter.unusedVariables false
set_option linter.unusedSimpArgs false

def fitsG (x : List UInt8) (n : Int) (y : Kd) : Bool := decide (y.n = x) && decide (n ≤ y.m - y.h)
def rauthV (r : Rs) (o : Nat) (x : List UInt8) (n : Int) : Bool := o != 0 && decide (1 ≤ n) && decide (atN r.L o < 0) && (rgoods r).any (fitsG x n)
def rauthS (r : Rs) (o : Nat) (x : List UInt8) (n : Int) : Rs := if rauthV r o x n = true then ⟨r.F, r.L ++ [⟨o, x, n, 1⟩]⟩ else r
def RoI (G : List Kd) (x : List UInt8) (n : Int) (w1 : World) (v11 : Value) (wr : World) : Prop := ∃ k : Nat, k ≤ G.length ∧ v11 = .int .i64 (k : Int) ∧ (∀ (j : Nat) (hj : j < G.length), j < k → fitsG x n G[j] = false) ∧ Below w1.heap.size w1 wr

theorem ro_no {w w' : World} {B g : Nat} {vF vL : Value} {r : Rs} {o : Nat} {x : List UInt8} {n : Int} (hv : rauthV r o x n = false) (h : RAt w B g vF vL r) (hb : Below w.heap.size w w') : RcPost w B g vF vL (rauthV r o x n) (rauthS r o x n) (.returned (.int .i64 2)) w' := by
  unfold rauthS
  rw [hv, if_neg (by decide)]
  exact rc_same h hb

set_option maxHeartbeats 8000000 in
theorem rauth_any (B g : Nat) (vF vL : Value) (r : Rs) (o : Nat) (x : List UInt8) (n : Int) (w : World) (h : RAt w B g vF vL r) (hF : FOk r.F) (hL : SumOk r.L) (hB : B ≤ w.heap.size) :
    Calls Try.prog 14 #[.pointer (some ⟨g, 0, none⟩), .int .u32 (o : Int), encStr x, .int .i64 n] w (RcPost w B g vF vL (rauthV r o x n) (rauthS r o x n)) := by
  have H := Lib.hid h
  have HBB := Lib.hid hB
  have CAT := Lib.hid (at_any B g vF vL r o w h hL.1)
  have CG := Lib.hid (rgoods_any B g vF vL r w h hF hL)
  have HLL := Lib.hid hL.1
  have HLO := Lib.hid hL
  have HFO := Lib.hid hF
  have HFL := Lib.hid hF.1
  clear h hF hL hB
  obtain ⟨p, hp⟩ : ∃ z, atN r.L o = z := ⟨_, rfl⟩
  rw [hp] at CAT
  by_cases h0 : o = 0
  · have hv : rauthV r o x n = false := by unfold rauthV; rw [h0]; rfl
    have HV := Lib.hid hv
    subst h0
    have CAT0 : Hid (Calls Try.prog 31 #[.pointer (some ⟨g, 0, none⟩), .int .u32 0] w fun e w' => e = .returned (.int .i64 p) ∧ w = w') := CAT
    clear hv
    go_enter Try.func14, Try.ntmps14
    go_wp2_with fail
    with_reducible refine CAT0.out.mono ?_
    rintro e w' ⟨rfl, rfl⟩
    go_wp2
    go_ret
    exact ro_no HV.out H.out (Below.refl _ _)
  have e0 : (((o : Int) == 0) : Bool) = false := beq_eq_false_iff_ne.2 (by omega)
  by_cases h1 : n < 1
  · have hv : rauthV r o x n = false := by unfold rauthV; rw [show decide (1 ≤ n) = false from by simp; omega]; simp
    have HV := Lib.hid hv
    clear hv
    go_enter Try.func14, Try.ntmps14
    go_wp2_with fail
    with_reducible refine CAT.out.mono ?_
    rintro e w' ⟨rfl, rfl⟩
    go_wp2
    go_ret
    exact ro_no HV.out H.out (Below.refl _ _)
  have e1 : decide (n < 1) = false := by simpa using h1
  by_cases h2 : 0 ≤ p
  · have hv : rauthV r o x n = false := by unfold rauthV; rw [hp, show decide (p < 0) = false from by simp; omega]; simp
    have HV := Lib.hid hv
    clear hv
    go_enter Try.func14, Try.ntmps14
    go_wp2_with fail
    with_reducible refine CAT.out.mono ?_
    rintro e w' ⟨rfl, rfl⟩
    go_wp2
    go_ret
    exact ro_no HV.out H.out (Below.refl _ _)
  have e2 : decide (0 ≤ p) = false := by simpa using h2
  have HVE : Hid (rauthV r o x n = (rgoods r).any (fitsG x n)) := Lib.hid (by
    unfold rauthV
    rw [show (o != 0) = true from by simpa using h0, show decide (1 ≤ n) = true from by simp; omega, hp, show decide (p < 0) = true from by simp; omega]
    simp)
  have HGL : Hid ((rgoods r).length = r.F.length) := Lib.hid (by simp [rgoods])
  clear hp h1 h2
  go_enter Try.func14, Try.ntmps14
  go_wp2_with fail
  with_reducible refine CAT.out.mono ?_
  rintro e w' ⟨rfl, rfl⟩
  go_wp2_with fail
  with_reducible refine CG.out.mono ?_
  rintro e w1 ⟨v, rfl, hO, hb⟩
  have HO := Lib.hid hO
  have HB1 := Lib.hid hb
  clear hO hb CAT CG
  have HGB : Hid (∀ y ∈ rgoods r, (-1000000000000 ≤ y.m ∧ y.m ≤ 1000000000) ∧ (0 ≤ y.h ∧ y.h ≤ 1000000000000)) := Lib.hid (by
    intro y hy
    unfold rgoods at hy
    obtain ⟨k, hk, rfl⟩ := List.mem_map.1 hy
    have h1 := HFO.out.2 k hk
    have h2 := held_full HLO.out k.n 2
    have h3 := held_full HLO.out k.n 1
    dsimp only
    omega)
  obtain ⟨G, hG⟩ : ∃ z, rgoods r = z := ⟨_, rfl⟩
  rw [hG] at HO HVE HGL HGB
  clear hG
  obtain ⟨A1, c1, rfl, hGin, -⟩ := HO.out.gin
  have HGI := Lib.hid hGin
  have hz : (G.length : Int) ≤ 1000 := by have := HGL.out; have := HFL.out; omega
  clear hGin
  go_wp2_with fail
  go_loopw [11] (fun v11 wr => RoI G x n w1 v11 wr) (fun i _ => G.length - (intOf i).toNat)
  case atStart => exact ⟨0, by omega, rfl, fun j hj h => by omega, Below.refl _ _⟩
  case round =>
    obtain ⟨k, hk, rfl, hall, hbw⟩ := hrel
    have HALL := Lib.hid hall
    have HBW0 := Lib.hid hbw
    have HBR := Lib.hid (HB1.out.trans (hbw.mono HB1.out.size))
    have HGR := Lib.hid (HGI.out.below hbw)
    clear hall hbw
    by_cases hlt : k < G.length
    · have hlt2 : (k : Int) < (G.length : Int) := by omega
      obtain ⟨b0, o0, rfl, hb0, hcell⟩ := HGR.out.2 (by omega)
      obtain ⟨y0, y1, y2⟩ := hcell k hlt
      obtain ⟨yy, hyy⟩ : ∃ z, G[k] = z := ⟨_, rfl⟩
      rw [hyy] at y0 y1 y2
      have HYY := Lib.hid hyy
      clear hcell hyy
      obtain ⟨yn, ym, yh⟩ := yy
      dsimp only at y0 y1 y2
      have hyb := HGB.out _ (HYY.out ▸ List.getElem_mem hlt)
      dsimp only at hyb
      obtain ⟨hyb1, hyb2⟩ := hyb
      have ew : IntKind.i64.wrap (ym - yh) = ym - yh := IntWalk.i64_in _ (by omega)
      by_cases hn : yn = x
      · subst hn
        by_cases hf : n ≤ ym - yh
        · have HVT : Hid (rauthV r o yn n = true) := Lib.hid (by
            rw [HVE.out, List.any_eq_true]
            exact ⟨⟨yn, ym, yh⟩, HYY.out ▸ List.getElem_mem hlt, by simp [fitsG, hf]⟩)
          have hf1 : decide (n ≤ ym - yh) = true := by simpa using hf
          go_wp2_with fail
          go_quiet (fail)
          obtain ⟨W1, hW1⟩ : ∃ W, W = wr.drewN nq := ⟨_, rfl⟩
          rw [← hW1]
          have HB1' : Hid (Below w.heap.size w W1) := Lib.hid (by rw [hW1]; exact below_drewN HBR.out _)
          have HR1 := Lib.hid (H.out.below HB1'.out)
          obtain ⟨c0, c11⟩ := HR1.out.c.cells2
          clear hW1 y0 y1 y2 ew hf1
          have HO3 : Hid (OwnR (W1.alloc (.cells #[.int .u32 (o : Int), encStr yn, .int .i64 n, .int .i64 1] 48)) B vL r.L) := Lib.hid (HR1.out.l.alloc _)
          have HR3 := Lib.hid (HR1.out.alloc (.cells #[.int .u32 (o : Int), encStr yn, .int .i64 n, .int .i64 1] 48))
          have LN : Hid (Lies (W1.alloc (.cells #[.int .u32 (o : Int), encStr yn, .int .i64 n, .int .i64 1] 48)) W1.heap.size 48 #[.int .u32 (o : Int), encStr yn, .int .i64 n, .int .i64 ((1 : Nat) : Int)]) := Lib.hid (Lies.made W1 48 #[.int .u32 (o : Int), encStr yn, .int .i64 n, .int .i64 1])
          have HSM : Hid (r.L.length ≤ 100000) := Lib.hid (by have := HLL.out; omega)
          have HBZ : Hid (B ≤ (W1.alloc (.cells #[.int .u32 (o : Int), encStr yn, .int .i64 n, .int .i64 1] 48)).heap.size) := Lib.hid (by rw [size_one]; have := HBB.out; have := HB1'.out.size; omega)
          have HBW := Lib.hid ((HB1'.out.alloc HB1'.out.size (.cells #[.int .u32 (o : Int), encStr yn, .int .i64 n, .int .i64 1] 48)))
          go_wp2_with (first
            | ((with_reducible refine wpl_appH (some 65) _ _ _ (.tmp 59) (.tmp 64) B vL r.L W1.heap.size o yn n 1 ?hs ?hx HO3.out LN.out HSM.out HBZ.out ?_); (case hs => rfl); (case hx => rfl); (intro v4 w4 ho4 hg4 hb4; (have HL4 := Lib.hid (HR3.out.c.same (hg4.block g HR3.out.c.lt (fun e => HR3.out.l.ne_lies HR3.out.c (by decide) g e.symm rfl)))); (have HO4 := Lib.hid ho4); (have HG4 := Lib.hid hg4); (have HB4 := Lib.hid hb4); (have HONE := Lib.hid ho4.one); clear ho4 hg4 hb4))
            | ((with_reducible refine wpl_putC none _ _ _ 40 (.tmp 67) (.tmp 65) g 1 63 _ v4 ?px ?py HL4.out ?pi ?ps HONE.out ?_); (case px => rfl); (case py => rfl); (case pi => simp); (case ps => kernel_rfl); (intro w5 hp5; (have HP5 := Lib.hid hp5); clear hp5)))
          go_ret
          have hq := HR3.out.putL HBZ.out HO4.out HG4.out HP5.out
          refine ⟨by rw [HVT.out]; rfl, v4, ?_, ?_⟩
          · unfold rauthS
            rw [if_pos HVT.out]
            exact hq.1
          · have hb := HBW.out
            exact ⟨hq.2.os.trans hb.os, hq.2.tape.trans hb.tape, hq.2.output.trans hb.output, Nat.le_trans hb.size hq.2.size, fun k hk h1 h2 => (hq.2.block k (Nat.lt_of_lt_of_le hk hb.size) h1 h2).trans (hb.block k hk)⟩
        · have hf2 : decide (n ≤ ym - yh) = false := by simpa using hf
          go_wp2_with fail
          go_quiet (fail)
          clear ew y0 y1 y2
          go_wp2
          go_roundw
          case rel =>
            refine ⟨k + 1, by omega, by go_num, fun j hj h => ?_, below_drewN HBW0.out _⟩
            by_cases e : j = k
            · subst e; rw [HYY.out]; simp [fitsG]; omega
            · exact HALL.out j hj (by omega)
          case measure => simp [intOf]; omega
      · have hn2 : decide (yn = x) = false := by simpa using hn
        have hn3 : (yn == x) = false := by simpa using hn
        go_wp2_with fail
        go_quiet (fail)
        clear ew y0 y1 y2
        go_wp2
        go_roundw
        case rel =>
          refine ⟨k + 1, by omega, by go_num, fun j hj h => ?_, below_drewN HBW0.out _⟩
          by_cases e : j = k
          · subst e; rw [HYY.out]; simp [fitsG, hn]
          · exact HALL.out j hj (by omega)
        case measure => simp [intOf]; omega
    · have hlt2 : decide ((k : Int) < (G.length : Int)) = false := by simp; omega
      have HV : Hid (rauthV r o x n = false) := Lib.hid (by
        rw [HVE.out, List.any_eq_false]
        intro y hy
        obtain ⟨j, hj, rfl⟩ := List.getElem_of_mem hy
        rw [HALL.out j hj (by omega)]
        decide)
      go_wp2
      go_ret
      exact ro_no HV.out H.out HBR.out

end Go.Proofs.Ytlgdjmmhdfpfeaa
