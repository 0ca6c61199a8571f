/-
  The contract of the reference's Book.
-/
import Derived.Test.YtnajombhlmbopaaRefF
namespace Go.Proofs.Ytnajombhlmbopaa
open Go.Proofs Go.RowKit
set_option maxRecDepth 100000
set_option linter.unusedVariables false
set_option linter.unusedSimpArgs false

/-- The room of all days, as the reference reckons it. -/
def freeL (r : Rs) : List Int := (List.range r.F.length).map (fun d => fr r.F d - bkd r.L d)
theorem freeL_len (r : Rs) : (freeL r).length = r.F.length := by simp [freeL]
theorem fr_freeL (r : Rs) (d : Nat) (h : d < r.F.length) : fr (freeL r) d = fr r.F d - bkd r.L d := by
  rw [← fr_get (by rw [freeL_len]; exact h)]
  simp [freeL]
def rbookD (r : Rs) (o : Nat) (f n : Int) : Option Nat := if o ≠ 0 ∧ 1 ≤ n ∧ 0 ≤ f ∧ ¬ 0 ≤ atN r.L o then fday (freeL r) f n else none
def rbookS (r : Rs) (o : Nat) (n : Int) (D : Option Nat) : Rs := match D with
  | none => r
  | some d => ⟨r.F, r.L ++ [⟨o, d, n⟩]⟩
theorem ro_no {w w' : World} {B g : Nat} {vF vL : Value} {r : Rs} {o : Nat} {f n : Int} (hv : rbookD r o f n = none) (h : RAt w B g vF vL r) (hb : Below w.heap.size w w') : RcPost w B g vF vL (dayI (rbookD r o f n)) (verd (rbookD r o f n).isSome) (rbookS r o n (rbookD r o f n)) (.returned (.tuple #[.int .i64 0, .int .i64 2])) w' := by
  rw [hv]
  exact rc_same h hb
def RoI (r : Rs) (f n : Int) (f0 : Nat) (v11 : Value) : Prop := ∃ k : Nat, f0 ≤ k ∧ v11 = .int .i64 (k : Int) ∧ (k ≤ r.F.length ∨ k = f0) ∧ ∀ i, i < k → ¬ (f ≤ (i : Int) ∧ n ≤ fr (freeL r) i)

set_option maxHeartbeats 8000000 in
theorem rbook_any (B g : Nat) (vF vL : Value) (r : Rs) (o : Nat) (f n : Int) (w : World) (h : RAt w B g vF vL r) (hF : FOk r.F) (hL : SumOk r.L) (hB : B ≤ w.heap.size) (hf : -9223372036854775808 ≤ f ∧ f ≤ 9223372036854775807) (hn : -9223372036854775808 ≤ n ∧ n ≤ 9223372036854775807) :
    Calls Try.prog 13 #[.pointer (some ⟨g, 0, none⟩), .int .u32 (o : Int), .int .i64 f, .int .i64 n] w (RcPost w B g vF vL (dayI (rbookD r o f n)) (verd (rbookD r o f n).isSome) (rbookS r o n (rbookD r o f n))) := by
  have H := Lib.hid h
  have HBB := Lib.hid hB
  have CAT := Lib.hid (at_any B g vF vL r o w h hL.1)
  have CR := Lib.hid (fun d : Int => rroom_any B g vF vL r d w h hF hL)
  have HLL := Lib.hid hL.1
  obtain ⟨AF, cF, hvF, -, -⟩ := h.f.iin
  have hC := h.c
  rw [hvF] at hC
  obtain ⟨c0, c1⟩ := hC.cells2
  have HVF := Lib.hid hvF
  have hnF : (r.F.length : Int) ≤ 1000 := by have := hF.1; omega
  clear h hF hL hB hC hvF
  obtain ⟨p, hp⟩ : ∃ z, atN r.L o = z := ⟨_, rfl⟩
  rw [hp] at CAT
  by_cases h0 : o = 0
  · have HV : Hid (rbookD r o f n = none) := Lib.hid (by unfold rbookD; rw [if_neg (fun h => h.1 h0)])
    have e0 : (((o : Int) == 0) : Bool) = true := by simp [h0]
    clear h0
    go_enter Try.func13, Try.ntmps13
    go_wp2_with fail
    with_reducible refine CAT.out.mono ?_
    rintro e w' ⟨rfl, rfl⟩
    go_wp2
    go_ret2
    exact ro_no HV.out H.out (Below.refl _ _)
  have e0 : (((o : Int) == 0) : Bool) = false := beq_eq_false_iff_ne.2 (by omega)
  by_cases h1 : n < 1
  · have HV : Hid (rbookD r o f n = none) := Lib.hid (by unfold rbookD; rw [if_neg (fun h => by omega)])
    have e1 : decide (n < 1) = true := by simpa using h1
    go_enter Try.func13, Try.ntmps13
    go_wp2_with fail
    with_reducible refine CAT.out.mono ?_
    rintro e w' ⟨rfl, rfl⟩
    go_wp2
    go_ret2
    exact ro_no HV.out H.out (Below.refl _ _)
  have e1 : decide (n < 1) = false := by simpa using h1
  by_cases h2 : f < 0
  · have HV : Hid (rbookD r o f n = none) := Lib.hid (by unfold rbookD; rw [if_neg (fun h => by omega)])
    have e2 : decide (f < 0) = true := by simpa using h2
    go_enter Try.func13, Try.ntmps13
    go_wp2_with fail
    with_reducible refine CAT.out.mono ?_
    rintro e w' ⟨rfl, rfl⟩
    go_wp2
    go_ret2
    exact ro_no HV.out H.out (Below.refl _ _)
  have e2 : decide (f < 0) = false := by simpa using h2
  by_cases h3 : 0 ≤ p
  · have HV : Hid (rbookD r o f n = none) := Lib.hid (by unfold rbookD; rw [if_neg (fun h => by rw [hp] at h; omega)])
    have e3 : decide (0 ≤ p) = true := by simpa using h3
    go_enter Try.func13, Try.ntmps13
    go_wp2_with fail
    with_reducible refine CAT.out.mono ?_
    rintro e w' ⟨rfl, rfl⟩
    go_wp2
    go_ret2
    exact ro_no HV.out H.out (Below.refl _ _)
  have e3 : decide (0 ≤ p) = false := by simpa using h3
  have HVE : Hid (rbookD r o f n = fday (freeL r) f n) := Lib.hid (by unfold rbookD; rw [if_pos ⟨h0, by omega, by omega, by rw [hp]; exact h3⟩])
  obtain ⟨f0, hf0⟩ := Int.eq_ofNat_of_zero_le (show 0 ≤ f by omega)
  subst hf0
  have hff : (f0 : Int) ≤ 9223372036854775807 := by omega
  clear hp h0 h3 hf h2
  go_enter Try.func13, Try.ntmps13
  go_wp2_with fail
  with_reducible refine CAT.out.mono ?_
  rintro e w' ⟨rfl, rfl⟩
  clear CAT
  go_wp2_with fail
  go_loop [11] (fun v11 => RoI r (f0 : Int) n f0 v11) (fun i => r.F.length - (intOf i).toNat)
  case atStart => exact ⟨f0, Nat.le_refl _, rfl, .inr rfl, fun i hi hc => by omega⟩
  case round =>
    obtain ⟨k, hfk, rfl, hkk, hall⟩ := hrel
    have HALL := Lib.hid hall
    have hkm : (k : Int) ≤ 9223372036854775807 := by omega
    clear hall
    by_cases hlt : k < r.F.length
    · have hlt2 : (k : Int) < (r.F.length : Int) := by omega
      have C := CR.out (k : Int)
      rw [rroomI_nat r k hlt, ← fr_freeL r k hlt] at C
      obtain ⟨x, hx⟩ : ∃ x, fr (freeL r) k = x := ⟨_, rfl⟩
      rw [hx] at C
      have HX := Lib.hid hx
      have HC := Lib.hid C
      clear hx C
      go_wp2_with fail
      with_reducible refine HC.out.mono ?_
      rintro e w' ⟨rfl, rfl⟩
      by_cases hnx : n ≤ x
      · have e4 : decide (n ≤ x) = true := by simpa using hnx
        have HVD : Hid (rbookD r o (f0 : Int) n = some k) := Lib.hid (by rw [HVE.out]; exact fday_some.2 ⟨by rw [freeL_len]; exact hlt, by omega, by rw [HX.out]; exact hnx, HALL.out⟩)
        have HR3 := Lib.hid (H.out.alloc (.cells #[.int .u32 (o : Int), .int .i64 (k : Int), .int .i64 n] 44))
        have LN := Lib.hid (Lies.made w 44 #[.int .u32 (o : Int), .int .i64 (k : Int), .int .i64 n])
        have HSM : Hid (r.L.length ≤ 100000) := Lib.hid (by have := HLL.out; omega)
        have HBZ : Hid (B ≤ (w.alloc (.cells #[.int .u32 (o : Int), .int .i64 (k : Int), .int .i64 n] 44)).heap.size) := Lib.hid (by rw [size_one]; have := HBB.out; omega)
        have HBW := Lib.hid (below1 w (.cells #[.int .u32 (o : Int), .int .i64 (k : Int), .int .i64 n] 44))
        go_wp2_with (first
          | ((with_reducible refine wpl_appH (some 56) _ _ _ (.tmp 50) (.tmp 55) B vL r.L w.heap.size o k n ?hs ?hx HR3.out.l LN.out HSM.out HBZ.out ?_); (case hs => rfl); (case hx => rfl); (intro v4 w4 ho4 hg4 hb4; (have HL4 := Lib.hid (HR3.out.c.same (hg4.block g HR3.out.c.lt (fun e => HR3.out.l.ne_lies HR3.out.c (by decide) g e.symm rfl)))); (have HO4 := Lib.hid ho4); (have HG4 := Lib.hid hg4); (have HONE := Lib.hid ho4.one); clear ho4 hg4 hb4))
          | ((with_reducible refine wpl_putC none _ _ _ 39 (.tmp 58) (.tmp 56) g 1 57 _ v4 ?px ?py HL4.out ?pi ?ps HONE.out ?_); (case px => rfl); (case py => rfl); (case pi => simp); (case ps => kernel_rfl); (intro w5 hp5; (have HP5 := Lib.hid hp5); clear hp5)))
        go_ret2
        have hq := HR3.out.putL HBZ.out HO4.out HG4.out HP5.out
        refine ⟨by rw [HVD.out]; rfl, v4, ?_, ?_⟩
        · rw [HVD.out]
          exact hq.1
        · have hb := HBW.out
          exact ⟨hq.2.os.trans hb.os, hq.2.tape.trans hb.tape, hq.2.output.trans hb.output, Nat.le_trans hb.size hq.2.size, fun k hk h1 h2 => (hq.2.block k (Nat.lt_of_lt_of_le hk hb.size) h1 h2).trans (hb.block k hk)⟩
      · have e4 : decide (n ≤ x) = false := by simpa using hnx
        go_wp2
        go_round
        case rel =>
          refine ⟨k + 1, by omega, by go_num, .inl (by omega), fun i hi hc => ?_⟩
          by_cases e : i = k
          · subst e; rw [HX.out] at hc; have := hc.2; omega
          · exact HALL.out i (by omega) hc
        case measure => simp [intOf]; omega
    · have hlt2 : decide ((k : Int) < (r.F.length : Int)) = false := by simp; omega
      have e5 : decide (k < r.F.length) = false := by simpa using hlt
      have HV : Hid (rbookD r o (f0 : Int) n = none) := Lib.hid (by rw [HVE.out]; exact fday_none.2 fun i hi => HALL.out i (by rw [freeL_len] at hi; omega))
      go_wp2
      go_ret2
      exact ro_no HV.out H.out (Below.refl _ _)

end Go.Proofs.Ytnajombhlmbopaa
