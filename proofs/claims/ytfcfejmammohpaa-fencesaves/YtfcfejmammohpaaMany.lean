/-
  The contract of many: what it lets pass is not large.
-/
import Derived.Test.YtfcfejmammohpaaSameF
namespace Go.Proofs.Ytfcfejmammohpaa
open Go.RowKit
set_option maxRecDepth 100000
set_option linter.unusedVariables false
set_option linter.unusedSimpArgs false

/-- Not more than is looked at. -/
def Small (n : Nat) (T : Nat → Kp) (N : Note) : Prop := n ≤ 300 ∧ N.data.length ≤ 40000 ∧ ∀ i, i < n → (T i).a.length ≤ 40000 ∧ (T i).r.length ≤ 40000
def ManyPost (w : World) (S : Prop) (x : Ending) (w' : World) : Prop := ∃ b, x = .returned (.bool b) ∧ (b = false → S) ∧ Below w.heap.size w w'
def MyR (w : World) (n : Nat) (T : Nat → Kp) (dl : Nat) (gF : Nat) (fc : Array Value) (k i : Value) (wr : World) : Prop :=
  ∃ (j : Nat) (z : Int), j ≤ n ∧ i = .int .i64 (j : Int) ∧ k = .int .i64 z ∧ (j : Int) ≤ z ∧ z ≤ 100000000000000000 ∧ (dl : Int) / 100 ≤ z ∧ (z ≤ 300 → ∀ q, q < j → (T q).a.length < 30000 ∧ (T q).r.length < 30000) ∧ Lies wr gF 25 fc ∧ Below w.heap.size w wr
set_option maxHeartbeats 4000000 in
theorem many_any (ep : Nat) (A : Option Addr) (n c : Nat) (T : Nat → Kp) (N : Note) (A1 A2 : Option Addr) (c1 c2 : Nat) (w : World) (hF : FV w A n c T) (hd : N.data.length ≤ maxLen) :
    Calls Try.prog 11 #[.agg #[.int .u32 (ep : Int), .slice A n c], .agg (evs N (.slice A1 N.key.length c1) (.slice A2 N.data.length c2))] w (ManyPost w (Small n T N)) := by
  obtain ⟨hnc, hcm, _, X, hX, hXk⟩ := hF
  have hn63 : n ≤ maxLen := Nat.le_trans hnc hcm
  have HSM : Hid (∀ (z : Int), (n : Int) ≤ z → z ≤ 300 → ((N.data.length : Nat) : Int) / 100 ≤ z → (∀ q, q < n → (T q).a.length < 30000 ∧ (T q).r.length < 30000) → Small n T N) := Lib.hid (fun z h1 h2 h3 h4 => ⟨by omega, by omega, fun i hi => by have := h4 i hi; omega⟩)
  have HX := Lib.hid hX
  have HXK := Lib.hid hXk
  have LF := Lib.hid ((Lies.made w 25 #[.int .u32 (ep : Int), .slice A n c]).alloc (.cells (evs N (.slice A1 N.key.length c1) (.slice A2 N.data.length c2)) 29))
  have BB := Lib.hid (below2 w (.cells #[.int .u32 (ep : Int), .slice A n c] 25) (.cells (evs N (.slice A1 N.key.length c1) (.slice A2 N.data.length c2)) 29))
  unfold maxLen at hn63 hd
  clear hX hXk hnc hcm
  generalize Small n T N = SM at *
  obtain ⟨kd, e, ol, ls, tk, od, st, un, cd, ky, da⟩ := N
  dsimp only at *
  generalize ky.length = n1 at *
  generalize da.length = n2 at *
  have hd0 : ((n2 : Int) / 100) ≤ 100000000000000000 := by omega
  have hd1 : (0 : Int) ≤ ((n2 : Int) / 100) := by omega
  go_enter Try.func11, Try.ntmps11
  go_wp2_with fail
  go_loopw [5, 6] (MyR w n T n2 w.heap.size #[.int .u32 (ep : Int), .slice A n c]) (fun _ i _ => n - (intOf i).toNat)
  case atStart => exact ⟨0, (n2 : Int) / 100, by omega, rfl, rfl, hd1, hd0, by omega, (fun _ q hq => by omega), LF.out, BB.out⟩
  case round =>
    obtain ⟨j, z, hj, rfl, rfl, hjz, hz, hdz, hsm, hL, hbel⟩ := hrel
    have LF0 := Lib.hid hL
    have BB0 := Lib.hid hbel
    have HS := Lib.hid hsm
    have HDZ := Lib.hid hdz
    clear hL hbel hsm hdz
    obtain ⟨a0, a1⟩ := LF0.out.cells2
    by_cases hlt : j < n
    · have hi : (j : Int) < (n : Int) := by omega
      by_cases h300 : z ≤ 300
      · have d3 : decide (z ≤ 300) = true := decide_eq_true h300
        obtain ⟨b, off, rfl, _⟩ := HX.out.1 (by omega)
        have HXW := Lib.hid (HX.out.below BB0.out)
        obtain ⟨q0, q1, q2, q3, q4, q5⟩ := HXW.out.at j hlt
        obtain ⟨B1, b1, e1, -⟩ := (HXW.out.2 j hlt).a
        obtain ⟨B2, b2, e2, -⟩ := (HXW.out.2 j hlt).r
        have HTJ := Lib.hid (HXK.out j hlt)
        rw [e1, HTJ.out] at q3
        rw [e2, HTJ.out] at q5
        clear e1 e2 q0 q1 q2 q4 HXW
        generalize hla : (T j).a.length = la at *
        generalize hlr : (T j).r.length = lr at *
        have HLA := Lib.hid hla
        have HLR := Lib.hid hlr
        clear hla hlr
        obtain ⟨m1, hm1, hm2⟩ : ∃ m1 : Nat, min (la : Int) 30000 = (m1 : Int) ∧ (m1 < 30000 → m1 = la) := ⟨min la 30000, by omega, by omega⟩
        obtain ⟨m2, hm3, hm4⟩ : ∃ m2 : Nat, min (lr : Int) 30000 = (m2 : Int) ∧ (m2 < 30000 → m2 = lr) := ⟨min lr 30000, by omega, by omega⟩
        have hm5 : m1 ≤ 30000 := by omega
        have hm6 : m2 ≤ 30000 := by omega
        have HM2 := Lib.hid hm2
        have HM4 := Lib.hid hm4
        clear hm2 hm4
        go_wp2_with fail
        go_quiet (fail)
        go_wp2
        go_roundw
        case rel =>
          refine ⟨j + 1, z + (1 + (m1 : Int) / 100 + (m2 : Int) / 100), by omega, by go_num, by first | rfl | go_num, by omega, by omega, by have := HDZ.out; omega, fun h q hq => ?_, Lies.drewN LF0.out _, below_drewN BB0.out _⟩
          by_cases e : q = j
          · subst e
            have h1 := HM2.out (by omega)
            have h2 := HM4.out (by omega)
            rw [HLA.out, HLR.out]
            omega
          · exact HS.out (by omega) q (by omega)
        case measure => simp [intOf]; omega
      · have d3 : decide (z ≤ 300) = false := decide_eq_false h300
        have d4 : decide (300 < z) = true := decide_eq_true (by omega)
        go_wp2
        go_ret
        exact ⟨_, rfl, (fun h => by cases h), BB0.out⟩
    · have hjn : j = n := by omega
      have d0 : decide ((j : Int) < (n : Int)) = false := by rw [decide_eq_false_iff_not]; omega
      have d0b : decide (j < n) = false := by rw [decide_eq_false_iff_not]; omega
      by_cases h300 : 300 < z
      · have d4 : decide (300 < z) = true := decide_eq_true h300
        go_wp2
        go_ret
        exact ⟨_, rfl, (fun h => by cases h), BB0.out⟩
      · have d4 : decide (300 < z) = false := decide_eq_false h300
        have HSM2 : Hid SM := Lib.hid (HSM.out z (by omega) (by omega) HDZ.out (by rw [← hjn]; exact HS.out (by omega)))
        clear hjn
        go_wp2
        go_ret
        exact ⟨_, rfl, (fun _ => HSM2.out), BB0.out⟩

end Go.Proofs.Ytfcfejmammohpaa
