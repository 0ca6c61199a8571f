/-
  The contract of Cancel.
-/
import Derived.Test.YtnajombhlmbopaaBook
import Derived.Test.YtnajombhlmbopaaPutS
namespace Go.Proofs.Ytnajombhlmbopaa
open Go.RowKit Go.Maps
set_option maxRecDepth 100000
set_option linter.unusedVariables false
set_option linter.unusedSimpArgs false

def CancPost (w : World) (b : SB) (q : Ss) (o : Nat) (e : Ending) (w' : World) : Prop :=
  e = .returned (.int .i64 (verd (findH q.H o).isSome)) ∧ At w' b (cancS q o) ∧ Frm w w' b

set_option maxHeartbeats 8000000 in
theorem canc_any (R : List Int) (b : SB) (q : Ss) (o : Nat) (w : World) (hA : At w b q) (hI : Inv R q) (ho : o < 4294967296) :
    Calls Try.prog 22 #[.pointer (some ⟨b.s, 0, none⟩), .int .u32 (o : Int)] w (CancPost w b q o) := by
  have HA := Lib.hid hA
  have HI := Lib.hid hI
  obtain ⟨A, cap, hbv⟩ := hA.len
  have hC := hA.c
  rw [hbv] at hC
  obtain ⟨c0, c1⟩ := hC.cells2
  have HBV := Lib.hid hbv
  clear hC hbv
  cases hf : findH q.H o with
  | none =>
    have HF := Lib.hid hf
    have lk := hA.o.look_none o ho hf
    clear hA hI hf
    go_enter Try.func22, Try.ntmps22
    go_wp2
    go_ret
    unfold CancPost
    rw [cancS_no HF.out, HF.out]
    exact ⟨rfl, HA.out.below (below1 _ _), Frm.of_below b (below1 _ _)⟩
  | some y =>
    have HF := Lib.hid hf
    have lk := hA.o.look_some o ho hf
    obtain ⟨hy, rfl⟩ := findH_some hf
    obtain ⟨hb1, hb2, hb3, hb4⟩ := hI.canc_bnd hy
    have hA1 := hA.alloc (.cells #[.int .i64 (y.d : Int), .int .i64 y.k] 59)
    have hC2 := hA1.c
    rw [HBV.out] at hC2
    obtain ⟨d0, d1⟩ := hC2.cells2
    obtain ⟨w2, hu1, hu2, hu3⟩ := hA1.o.del hI.hs y hy ho 0
    obtain ⟨hA2, hF2⟩ := hA1.turnH hu2 hu3
    have HNM : ¬ b.isMap w.heap.size := fun hm => Nat.lt_irrefl _ (hA.map_lt hm)
    have L2 := Lib.hid (hF2.lies (Lies.made w 59 #[.int .i64 (y.d : Int), .int .i64 y.k]) HNM)
    have HF2 := Lib.hid ((Frm.of_below b (below1 w (.cells #[.int .i64 (y.d : Int), .int .i64 y.k] 59))).trans hF2)
    have HA2 := Lib.hid hA2
    obtain ⟨cap', hv', hcc, hcm, hc⟩ := hA2.row (show 0 < q.F.length by omega)
    obtain ⟨x0, xf⟩ := hc y.d hb1
    rw [HBV.out] at hv'
    injection hv' with q1 q2 q3
    subst q1 q3
    obtain ⟨hp1, hp2⟩ := hA2.putF (show y.d < (Ss.mk q.F (delH q.H y.o)).F.length from hb1) (fr q.F y.d + y.k)
    have HP1 := Lib.hid hp1
    have HP2 := Lib.hid hp2
    have hC3 := hA2.c
    rw [HBV.out] at hC3
    obtain ⟨f0, f1⟩ := hC3.cells2
    have hd2 : (y.d : Int) < (q.F.length : Int) := by omega
    have hd3 : decide ((y.d : Int) < 0) = false := by simp
    obtain ⟨p0, p1⟩ := L2.out.cells2
    replace x0 : w2.cell? ⟨b.g, y.d, none⟩ = some (.int .i64 (fr q.F y.d)) := x0
    have ew : IntKind.i64.wrap (fr q.F y.d + y.k) = fr q.F y.d + y.k := IntWalk.i64_in _ (by omega)
    have HX : Hid (cancS q y.o = ⟨q.F.set y.d (fr q.F y.d + y.k), delH q.H y.o⟩) := Lib.hid (cancS_yes hf)
    clear hA hI hf hA1 hC2 hu2 hu3 hA2 hF2 hc hp1 hp2 hC3 q2 HNM hb3 hb4 hb2
    generalize hxx : fr q.F y.d = x at *
    have hy2 : (y.d : Int).toNat = y.d := by simp
    clear hxx
    go_enter Try.func22, Try.ntmps22
    go_wp2_with fail
    refine wp_region_still_tail 12 (by kernel_rfl) (by kernel_rfl) ?_
    simp only [List.take_succ_cons, List.take_zero, List.drop_succ_cons, List.drop_zero]
    refine still_val 25 ?va0 rfl (by rfl) ?hya0 ?resta0
    case hya0 => (go_simp; (try with_reducible rfl))
    try simp only [Act.put, List.setIfInBounds_toArray, List.set_cons_zero, List.set_cons_succ]
    refine still_val 26 ?va1 rfl (by rfl) ?hya1 ?resta1
    case hya1 => (go_simp; (try with_reducible rfl))
    try simp only [Act.put, List.setIfInBounds_toArray, List.set_cons_zero, List.set_cons_succ]
    refine still_val 27 ?va2 rfl (by rfl) ?hya2 ?resta2
    case hya2 => (go_simp; (try with_reducible rfl))
    try simp only [Act.put, List.setIfInBounds_toArray, List.set_cons_zero, List.set_cons_succ]
    refine still_val 28 ?va3 rfl (by rfl) ?hya3 ?resta3
    case hya3 => (go_simp; (try with_reducible rfl))
    try simp only [Act.put, List.setIfInBounds_toArray, List.set_cons_zero, List.set_cons_succ]
    refine still_val 29 ?va4 rfl (by rfl) ?hya4 ?resta4
    case hya4 => (go_simp; (try with_reducible rfl))
    try simp only [Act.put, List.setIfInBounds_toArray, List.set_cons_zero, List.set_cons_succ]
    refine still_val 30 ?va5 rfl (by rfl) ?hya5 ?resta5
    case hya5 => (go_simp; (try with_reducible rfl))
    try simp only [Act.put, List.setIfInBounds_toArray, List.set_cons_zero, List.set_cons_succ]
    refine still_val 31 ?va6 rfl (by rfl) ?hya6 ?resta6
    case hya6 => (go_simp; (try with_reducible rfl))
    try simp only [Act.put, List.setIfInBounds_toArray, List.set_cons_zero, List.set_cons_succ]
    refine still_val 32 ?va7 rfl (by rfl) ?hya7 ?resta7
    case hya7 => (go_simp; (try with_reducible rfl))
    try simp only [Act.put, List.setIfInBounds_toArray, List.set_cons_zero, List.set_cons_succ]
    refine still_val 33 ?va8 rfl (by rfl) ?hya8 ?resta8
    case hya8 => (go_simp; (try with_reducible rfl))
    try simp only [Act.put, List.setIfInBounds_toArray, List.set_cons_zero, List.set_cons_succ]
    refine still_val 34 ?va9 rfl (by rfl) ?hya9 ?resta9
    case hya9 => (go_simp; (try with_reducible rfl))
    try simp only [Act.put, List.setIfInBounds_toArray, List.set_cons_zero, List.set_cons_succ]
    refine still_val 35 ?va10 rfl (by rfl) ?hya10 ?resta10
    case hya10 => (go_simp; (try with_reducible rfl))
    try simp only [Act.put, List.setIfInBounds_toArray, List.set_cons_zero, List.set_cons_succ]
    refine still_val 36 ?va11 rfl (by rfl) ?hya11 ?resta11
    case hya11 => (go_simp; (try with_reducible rfl))
    try simp only [Act.put, List.setIfInBounds_toArray, List.set_cons_zero, List.set_cons_succ]
    refine wpStill_nil ?_
    change wpList _ _ _ _ _ w2.drew
    go_wp2
    go_ret
    refine ⟨by rw [HF.out]; rfl, ?_, ?_⟩
    · rw [HX.out]; exact HP1.out.drew
    · exact HF2.out.trans HP2.out.drew

end Go.Proofs.Ytnajombhlmbopaa
