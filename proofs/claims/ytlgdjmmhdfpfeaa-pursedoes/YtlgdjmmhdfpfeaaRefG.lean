/-
  The contract of the reference's Accounts.
-/
import Derived.Test.YtlgdjmmhdfpfeaaRefA
import Derived.Test.YtlgdjmmhdfpfeaaRegS
namespace Go.Proofs.Ytlgdjmmhdfpfeaa
open Go.Proofs Go.RowKit
set_option maxRecDepth 100000
set_option linter.unusedVariables false
set_option linter.unusedSimpArgs false

/-- The accounts of the reference's purse. -/
def rgoods (r : Rs) : List Kd := r.F.map (fun k => ⟨k.n, k.m - held r.L k.n 2, held r.L k.n 1⟩)
def FOk (F : List Kd) : Prop := F.length ≤ 1000 ∧ ∀ g ∈ F, 0 ≤ g.m ∧ g.m ≤ 1000000000
def RgI (w : World) (r : Rs) (v3 v4 : Value) (wr : World) : Prop := ∃ i : Nat, i ≤ r.F.length ∧ v4 = .int .i64 (i : Int) ∧ OwnG wr w.heap.size v3 ((rgoods r).take i) ∧ Below w.heap.size w wr
def RgPost (w : World) (l : List Kd) (e : Ending) (w' : World) : Prop := ∃ v, e = .returned v ∧ OwnG w' w.heap.size v l ∧ Below w.heap.size w w'
theorem sum_still {B g : Nat} {vF vL : Value} {r : Rs} (x : List UInt8) (t : Nat) (tv : Int) {w : World} (ht : tv = (t : Int)) (h : RAt w B g vF vL r) (hS : SumOk r.L) (n : Nat) : Calls Try.prog 38 #[.pointer (some ⟨g, 0, none⟩), encStr x, .int .i64 tv] (w.drewN n) fun e w' => e = .returned (.int .i64 (held r.L x t)) ∧ w' = w.drewN n :=
  (sum_any B g vF vL r x t tv (w.drewN n) ht (h.drewN n) hS).mono fun e w' ⟨h1, h2⟩ => ⟨h1, h2.symm⟩

set_option maxHeartbeats 4000000 in
theorem rgoods_any (B g : Nat) (vF vL : Value) (r : Rs) (w : World) (h : RAt w B g vF vL r) (hF : FOk r.F) (hL : SumOk r.L) :
    Calls Try.prog 19 #[.pointer (some ⟨g, 0, none⟩)] w (RgPost w (rgoods r)) := by
  have H := Lib.hid h
  have HF := Lib.hid hF
  have HL := Lib.hid hL
  obtain ⟨AF, cF, rfl, hGF, hcF⟩ := h.f.gin
  have hz : (r.F.length : Int) ≤ 1000 := by have := hF.1; omega
  clear hF hL h hGF hcF
  go_enter Try.func19, Try.ntmps19
  go_wp2_with fail
  go_loopw [3, 4] (fun v3 v4 wr => RgI w r v3 v4 wr) (fun _ i _ => r.F.length - (intOf i).toNat)
  case atStart => exact ⟨0, by omega, rfl, OwnE.nil _ _, Below.refl _ _⟩
  case round =>
    obtain ⟨i, hi, rfl, hO, hB⟩ := hrel
    have HO := Lib.hid hO
    have HB := Lib.hid hB
    have HR := Lib.hid (H.out.below hB)
    clear hO hB
    obtain ⟨c0, c1⟩ := HR.out.c.cells2
    by_cases hlt : i < r.F.length
    · have hlt2 : (i : Int) < (r.F.length : Int) := by omega
      obtain ⟨A0, cc, e0, hG, -⟩ := HR.out.f.gin
      injection e0 with q1 q2 q3
      subst q1 q3
      obtain ⟨b0, o0, rfl, hb0, hcell⟩ := hG.2 (by omega)
      obtain ⟨y0, y1, -⟩ := hcell i hlt
      obtain ⟨yy, hyy⟩ : ∃ z, r.F[i] = z := ⟨_, rfl⟩
      rw [hyy] at y0 y1
      have hyf := HF.out.2 _ (List.getElem_mem hlt)
      rw [hyy] at hyf
      obtain ⟨hy1, hy2⟩ := hyf
      have HST : Hid ((rgoods r).take (i + 1) = (rgoods r).take i ++ [⟨yy.n, yy.m - held r.L yy.n 2, held r.L yy.n 1⟩]) := Lib.hid (by
        rw [List.take_succ_eq_append_getElem (by simpa [rgoods] using hlt)]
        simp [rgoods, hyy])
      clear hcell hG hyy q2 hb0
      obtain ⟨s1, s2⟩ := held_full HL.out yy.n 2
      obtain ⟨yn, ym, yh⟩ := yy
      dsimp only at *
      have C1 := Lib.hid (sum_still yn 2 2 rfl HR.out HL.out)
      have e1 : IntKind.i64.wrap (ym - held r.L yn 2) = ym - held r.L yn 2 := IntWalk.i64_in _ (by omega)
      obtain ⟨h2, hh2⟩ : ∃ z, held r.L yn 2 = z := ⟨_, rfl⟩
      have HH2 := Lib.hid hh2
      rw [hh2] at C1 e1
      clear s1 s2 hh2
      go_wp2_with fail
      go_quiet ((go_at_call 38; exact Calls.quiet_of_same (C1.out _)))
      obtain ⟨W2, hW2⟩ : ∃ W2, W2 = wr.drewN nq := ⟨_, rfl⟩
      rw [← hW2]
      have HR2 : Hid (RAt W2 B g _ _ r) := Lib.hid (by rw [hW2]; exact HR.out.drewN nq)
      have HO2 : Hid (OwnG W2 w.heap.size u3 ((rgoods r).take i)) := Lib.hid (by rw [hW2]; exact HO.out.below (below_drewN (Below.refl _ _) _))
      have HB2 : Hid (Below w.heap.size w W2) := Lib.hid (by rw [hW2]; exact below_drewN HB.out _)
      clear hW2 c0 c1 y0 y1 e1 C1
      go_wp2_with fail
      with_reducible refine (sum_any B g _ _ r yn 1 1 W2 rfl HR2.out HL.out).mono ?_
      rintro e w3 ⟨rfl, rfl⟩
      obtain ⟨h1, hh1⟩ : ∃ z, held r.L yn 1 = z := ⟨_, rfl⟩
      rw [hh1]
      have HST2 : Hid ((rgoods r).take (i + 1) = (rgoods r).take i ++ [⟨yn, ym - h2, h1⟩]) := Lib.hid (by rw [HST.out, HH2.out, hh1])
      clear hh1
      have HO3 : Hid (OwnG (W2.alloc (.cells #[encStr yn, .int .i64 (ym - h2), .int .i64 h1] 46)) w.heap.size u3 ((rgoods r).take i)) := Lib.hid (HO2.out.alloc _)
      have LN := Lib.hid (Lies.made W2 46 #[encStr yn, .int .i64 (ym - h2), .int .i64 h1])
      have HSM : Hid (((rgoods r).take i).length ≤ 100000) := Lib.hid (by rw [List.length_take]; omega)
      have HBZ : Hid (w.heap.size ≤ (W2.alloc (.cells #[encStr yn, .int .i64 (ym - h2), .int .i64 h1] 46)).heap.size) := Lib.hid (by rw [size_one]; have := HB2.out.size; omega)
      go_wp2_with (first
        | ((with_reducible refine wpl_appG (some 44) _ _ _ (.tmp 36) (.tmp 43) w.heap.size u3 ((rgoods r).take i) W2.heap.size yn (ym - h2) h1 ?hs ?hx HO3.out LN.out HSM.out HBZ.out ?_); (case hs => rfl); (case hx => rfl); (intro v4 w4 ho4 hg4 hb4)))
      go_roundw
      case rel =>
        refine ⟨i + 1, by omega, by go_num, by rw [HST2.out]; exact ho4, ?_⟩
        exact ((HB2.out.alloc HB2.out.size _).grown hg4 HBZ.out (fun k hk => (HO.out.block k hk).1))
      case measure => simp [intOf]; omega
    · have hlt2 : decide ((i : Int) < (r.F.length : Int)) = false := by simp; omega
      have hii : (rgoods r).take i = rgoods r := List.take_of_length_le (by simp [rgoods]; omega)
      rw [hii] at HO
      go_wp2
      go_ret
      exact ⟨_, rfl, HO.out, HB.out⟩

end Go.Proofs.Ytlgdjmmhdfpfeaa
