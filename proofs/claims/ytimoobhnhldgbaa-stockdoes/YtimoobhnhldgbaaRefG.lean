/-
  The contract of the reference's Goods.
-/
import Derived.Test.YtimoobhnhldgbaaRefA
import Derived.Test.YtimoobhnhldgbaaPutS
namespace Go.Proofs.Ytimoobhnhldgbaa
open Go.Proofs Go.RowKit
set_option maxRecDepth 100000
set_option linter.unusedVariables false
set_option linter.unusedSimpArgs false

/-- The goods of the reference's stock. -/
def rgoods (r : Rs) : List Gd := r.F.map (fun g => ⟨g.n, g.f - held r.L g.n - held r.A g.n⟩)
def FOk (F : List Gd) : Prop := F.length ≤ 1000 ∧ ∀ g ∈ F, 0 ≤ g.f ∧ g.f ≤ 1000000
def RgI (w : World) (r : Rs) (v3 v4 : Value) (wr : World) : Prop := ∃ i : Nat, i ≤ r.F.length ∧ v4 = .int .i64 (i : Int) ∧ OwnG wr w.heap.size v3 ((rgoods r).take i) ∧ Below w.heap.size w wr
def RgPost (w : World) (l : List Gd) (e : Ending) (w' : World) : Prop := ∃ v, e = .returned v ∧ OwnG w' w.heap.size v l ∧ Below w.heap.size w w'

theorem held_full {L : List Hd} (h : SumOk L) (x : List UInt8) : 0 ≤ held L x ∧ held L x ≤ 1000000000 := by
  have := held_bd h x L.length
  rw [List.take_length] at this
  have := h.1
  omega
theorem sum_still (A : Option Addr) (n c : Nat) (L : List Hd) (x : List UInt8) (w : World) (hA : Hin w A n L) (hS : SumOk L) : Calls Try.prog 36 #[.slice A n c, encStr x] w fun e w' => e = .returned (.int .i64 (held L x)) ∧ w' = w :=
  (sum_any A n c L x w hA hS).mono fun e w' ⟨h1, h2⟩ => ⟨h1, h2.symm⟩

set_option maxHeartbeats 4000000 in
theorem rgoods_any (B g : Nat) (vF vL vA : Value) (r : Rs) (w : World) (h : RAt w B g vF vL vA r) (hF : FOk r.F) (hL : SumOk r.L) (hA : SumOk r.A) :
    Calls Try.prog 19 #[.pointer (some ⟨g, 0, none⟩)] w (RgPost w (rgoods r)) := by
  have H := Lib.hid h
  have HF := Lib.hid hF
  have HL := Lib.hid hL
  have HA := Lib.hid hA
  obtain ⟨AF, cF, rfl, hGF, hcF⟩ := h.f.gin
  obtain ⟨AL, cL, rfl, hHL, hcL⟩ := h.l.hin
  obtain ⟨AA, cA, rfl, hHA, hcA⟩ := h.a.hin
  have hz : (r.F.length : Int) ≤ 1000 := by have := hF.1; omega
  clear hF hL hA h hGF hHL hHA hcF hcL hcA
  go_enter Try.func19, Try.ntmps19
  go_wp2_with fail
  go_loopw [3, 4, 5] (fun v3 v4 _ wr => RgI w r v3 v4 wr) (fun _ i _ _ => r.F.length - (intOf i).toNat)
  case atStart => exact ⟨0, by omega, rfl, OwnE.nil _ _, Below.refl _ _⟩
  case round =>
    obtain ⟨i, hi, rfl, hO, hB⟩ := hrel
    have HO := Lib.hid hO
    have HB := Lib.hid hB
    have HR := Lib.hid (H.out.below hB)
    clear hO hB
    obtain ⟨c0, c1, c2⟩ := HR.out.c.cells3
    by_cases hlt : i < r.F.length
    · have hlt2 : (i : Int) < (r.F.length : Int) := by omega
      obtain ⟨A0, cc, e0, hG, -⟩ := HR.out.f.gin
      injection e0 with q1 q2 q3
      subst q1 q3
      obtain ⟨b0, o0, rfl, hb0, hcell⟩ := hG.2 (by omega)
      obtain ⟨y0, y1⟩ := hcell i hlt
      obtain ⟨yy, hyy⟩ : ∃ z, r.F[i] = z := ⟨_, rfl⟩
      rw [hyy] at y0 y1
      have hyf := HF.out.2 _ (List.getElem_mem hlt)
      rw [hyy] at hyf
      obtain ⟨hy1, hy2⟩ := hyf
      have HST : Hid ((rgoods r).take (i + 1) = (rgoods r).take i ++ [⟨yy.n, yy.f - held r.L yy.n - held r.A yy.n⟩]) := Lib.hid (by
        rw [List.take_succ_eq_append_getElem (by simpa [rgoods] using hlt)]
        simp [rgoods, hyy])
      clear hcell hG hyy q2
      obtain ⟨s1, s2⟩ := held_full HL.out yy.n
      obtain ⟨s3, s4⟩ := held_full HA.out yy.n
      obtain ⟨yn, yf⟩ := yy
      dsimp only at *
      obtain ⟨W2, hW2⟩ : ∃ W2, W2 = wr.alloc (.cells #[encStr yn, .int .i64 yf] 46) := ⟨_, rfl⟩
      have LB : Hid (Lies W2 wr.heap.size 46 #[encStr yn, .int .i64 yf]) := Lib.hid (by rw [hW2]; exact Lies.made _ _ _)
      have HR2 : Hid (RAt W2 B g _ _ _ r) := Lib.hid (by rw [hW2]; exact HR.out.alloc _)
      have HB2 : Hid (Below wr.heap.size wr W2) := Lib.hid (by rw [hW2]; exact below1 _ _)
      go_wp2_with fail
      rw [← hW2]
      clear c0 c1 c2 y0 y1 hW2
      obtain ⟨c0, c1, c2⟩ := HR2.out.c.cells3
      obtain ⟨d0, d1⟩ := LB.out.cells2
      have CL : Calls Try.prog 36 #[.slice AL r.L.length cL, encStr yn] W2.drew fun e w' => e = .returned (.int .i64 (held r.L yn)) ∧ w' = W2.drew := by
        obtain ⟨A1, c1, e1, h1, -⟩ := HR2.out.l.hin
        injection e1 with q1 q2 q3
        subst q1 q3
        exact sum_still _ _ _ _ _ _ h1 HL.out
      have CA : Calls Try.prog 36 #[.slice AA r.A.length cA, encStr yn] W2.drew fun e w' => e = .returned (.int .i64 (held r.A yn)) ∧ w' = W2.drew := by
        obtain ⟨A1, c1, e1, h1, -⟩ := HR2.out.a.hin
        injection e1 with q1 q2 q3
        subst q1 q3
        exact sum_still _ _ _ _ _ _ h1 HA.out
      have HCL := Lib.hid CL
      have HCA := Lib.hid CA
      clear CL CA
      refine wp_region_still_tail 19 (by kernel_rfl) (by kernel_rfl) ?_
      simp only [List.take_succ_cons, List.take_zero, List.drop_succ_cons, List.drop_zero]
      refine still_val 22 ?vg0 rfl (by rfl) ?hyg0 ?restg0
      case hyg0 => (go_simp; (try with_reducible rfl))
      try simp only [Act.put, List.setIfInBounds_toArray, List.set_cons_zero, List.set_cons_succ]
      refine still_val 23 ?vg1 rfl (by rfl) ?hyg1 ?restg1
      case hyg1 => (go_simp; (try with_reducible rfl))
      try simp only [Act.put, List.setIfInBounds_toArray, List.set_cons_zero, List.set_cons_succ]
      refine still_val 24 ?vg2 rfl (by rfl) ?hyg2 ?restg2
      case hyg2 => (go_simp; (try with_reducible rfl))
      try simp only [Act.put, List.setIfInBounds_toArray, List.set_cons_zero, List.set_cons_succ]
      refine still_val 25 ?vg3 rfl (by rfl) ?hyg3 ?restg3
      case hyg3 => (go_simp; (try with_reducible rfl))
      try simp only [Act.put, List.setIfInBounds_toArray, List.set_cons_zero, List.set_cons_succ]
      refine still_val 26 ?vg4 rfl (by rfl) ?hyg4 ?restg4
      case hyg4 => (go_simp; (try with_reducible rfl))
      try simp only [Act.put, List.setIfInBounds_toArray, List.set_cons_zero, List.set_cons_succ]
      refine still_val 27 ?vg5 rfl (by rfl) ?hyg5 ?restg5
      case hyg5 => (go_simp; (try with_reducible rfl))
      try simp only [Act.put, List.setIfInBounds_toArray, List.set_cons_zero, List.set_cons_succ]
      refine still_val 28 ?vg6 rfl (by rfl) ?hyg6 ?restg6
      case hyg6 => (go_simp; (try with_reducible rfl))
      try simp only [Act.put, List.setIfInBounds_toArray, List.set_cons_zero, List.set_cons_succ]
      refine still_val 29 ?vg7 rfl (by rfl) ?hyg7 ?restg7
      case hyg7 => (go_simp; (try with_reducible rfl))
      try simp only [Act.put, List.setIfInBounds_toArray, List.set_cons_zero, List.set_cons_succ]
      refine still_cal 30 _ _ _ rfl (by rfl) ?hyg8 HCL.out ?restg8
      case hyg8 => (go_simp; (try with_reducible rfl))
      try simp only [Act.put, List.setIfInBounds_toArray, List.set_cons_zero, List.set_cons_succ]
      refine still_val 31 ?vg9 rfl (by rfl) ?hyg9 ?restg9
      case hyg9 => (go_simp; (try with_reducible rfl))
      try simp only [Act.put, List.setIfInBounds_toArray, List.set_cons_zero, List.set_cons_succ]
      refine still_val 32 ?vg10 rfl (by rfl) ?hyg10 ?restg10
      case hyg10 => (go_simp; (try with_reducible rfl))
      try simp only [Act.put, List.setIfInBounds_toArray, List.set_cons_zero, List.set_cons_succ]
      refine still_val 33 ?vg11 rfl (by rfl) ?hyg11 ?restg11
      case hyg11 => (go_simp; (try with_reducible rfl))
      try simp only [Act.put, List.setIfInBounds_toArray, List.set_cons_zero, List.set_cons_succ]
      refine still_val 34 ?vg12 rfl (by rfl) ?hyg12 ?restg12
      case hyg12 => (go_simp; (try with_reducible rfl))
      try simp only [Act.put, List.setIfInBounds_toArray, List.set_cons_zero, List.set_cons_succ]
      refine still_val 35 ?vg13 rfl (by rfl) ?hyg13 ?restg13
      case hyg13 => (go_simp; (try with_reducible rfl))
      try simp only [Act.put, List.setIfInBounds_toArray, List.set_cons_zero, List.set_cons_succ]
      refine still_val 36 ?vg14 rfl (by rfl) ?hyg14 ?restg14
      case hyg14 => (go_simp; (try with_reducible rfl))
      try simp only [Act.put, List.setIfInBounds_toArray, List.set_cons_zero, List.set_cons_succ]
      refine still_val 37 ?vg15 rfl (by rfl) ?hyg15 ?restg15
      case hyg15 => (go_simp; (try with_reducible rfl))
      try simp only [Act.put, List.setIfInBounds_toArray, List.set_cons_zero, List.set_cons_succ]
      refine still_cal 38 _ _ _ rfl (by rfl) ?hyg16 HCA.out ?restg16
      case hyg16 => (go_simp; (try with_reducible rfl))
      try simp only [Act.put, List.setIfInBounds_toArray, List.set_cons_zero, List.set_cons_succ]
      refine still_val 39 ?vg17 rfl (by rfl) ?hyg17 ?restg17
      case hyg17 => (go_simp; (try with_reducible rfl))
      try simp only [Act.put, List.setIfInBounds_toArray, List.set_cons_zero, List.set_cons_succ]
      refine still_val 40 ?vg18 rfl (by rfl) ?hyg18 ?restg18
      case hyg18 => (go_simp; (try with_reducible rfl))
      try simp only [Act.put, List.setIfInBounds_toArray, List.set_cons_zero, List.set_cons_succ]
      refine wpStill_nil ?_
      change wpList _ _ _ _ _ W2.drew
      have e1 : IntKind.i64.wrap (yf - held r.L yn) = yf - held r.L yn := IntWalk.i64_in _ (by omega)
      have e2 : IntKind.i64.wrap (yf - held r.L yn - held r.A yn) = yf - held r.L yn - held r.A yn := IntWalk.i64_in _ (by omega)
      rw [e1, e2]
      refine wpl_putC none _ _ _ 3 (.tmp 40) (.tmp 39) wr.heap.size 1 46 _ (.int .i64 (yf - held r.L yn - held r.A yn)) rfl rfl (w := W2.drew) LB.out (by simp) (by kernel_rfl) rfl (fun W3 hp => ?_)
      have LB3 : Hid (Lies W3 wr.heap.size 46 #[encStr yn, .int .i64 (yf - held r.L yn - held r.A yn)]) := Lib.hid hp.lies
      have HB3 : Hid (Below wr.heap.size wr W3) := Lib.hid (HB2.out.drew.grown hp.grown (by rw [show W2.drew.heap.size = W2.heap.size from rfl]; exact HB2.out.size) (fun k hk => by injection hk with hk; omega))
      obtain ⟨k0, k1⟩ := LB3.out.cells2
      have HO3 : Hid (OwnG (W3.alloc (.cells #[encStr yn, .int .i64 (yf - held r.L yn - held r.A yn)] 46)) w.heap.size u3 ((rgoods r).take i)) := Lib.hid ((HO.out.below HB3.out).alloc _)
      have LN := Lib.hid (Lies.made W3 46 #[encStr yn, .int .i64 (yf - held r.L yn - held r.A yn)])
      have HSM : Hid (((rgoods r).take i).length ≤ 100000) := Lib.hid (by rw [List.length_take]; omega)
      have HBZ : Hid (w.heap.size ≤ (W3.alloc (.cells #[encStr yn, .int .i64 (yf - held r.L yn - held r.A yn)] 46)).heap.size) := Lib.hid (by rw [size_one]; have := HB.out.size; have := HB3.out.size; omega)
      clear e1 e2 c0 c1 c2 d0 d1 hp
      refine wpList_nil ?_
      go_wp2_with (first
        | ((with_reducible refine wpl_appG (some 44) _ _ _ (.tmp 41) (.tmp 43) w.heap.size u3 ((rgoods r).take i) W3.heap.size yn (yf - held r.L yn - held r.A yn) ?hs ?hx HO3.out LN.out HSM.out HBZ.out ?_); (case hs => rfl); (case hx => rfl); (intro v4 w4 ho4 hg4 hb4)))
      go_roundw
      case rel =>
        refine ⟨i + 1, by omega, by go_num, by rw [HST.out]; exact ho4, ?_⟩
        exact (((HB.out.trans (HB3.out.mono HB.out.size)).alloc (by have := HB.out.size; have := HB3.out.size; omega) _).grown hg4 HBZ.out (fun k hk => (HO.out.block k hk).1))
      case measure => simp [intOf]; omega
    · have hlt2 : decide ((i : Int) < (r.F.length : Int)) = false := by simp; omega
      have hii : (rgoods r).take i = rgoods r := List.take_of_length_le (by simp [rgoods]; omega)
      rw [hii] at HO
      go_wp2
      go_ret
      exact ⟨_, rfl, HO.out, HB.out⟩

end Go.Proofs.Ytimoobhnhldgbaa
