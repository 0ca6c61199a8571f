/-
  The contract of the reference's New.
-/
import Derived.Test.YtnajombhlmbopaaRefF
namespace Go.Proofs.Ytnajombhlmbopaa
open Go.Proofs Go.RowKit Go.Maps
set_option maxRecDepth 100000
set_option linter.unusedVariables false
set_option linter.unusedSimpArgs false

def RnPost (w : World) (l : List Int) (e : Ending) (w' : World) : Prop :=
  Below w.heap.size w w' ∧ ((newOf l = none ∧ e = .returned (.tuple #[.pointer none, .int .i64 2])) ∨
    ∃ g vF vL, newOf l = some l ∧ e = .returned (.tuple #[.pointer (some ⟨g, 0, none⟩), .int .i64 0]) ∧ RAt w' w.heap.size g vF vL ⟨l, []⟩)
def RnI (w : World) (l : List Int) (g : Nat) (v5 : Value) (wr : World) : Prop := ∃ (j : Nat) (vF : Value), j ≤ l.length ∧ v5 = .int .i64 (j : Int) ∧ (∀ (i : Nat) (hi : i < l.length), i < j → badI l[i] = false) ∧ RAt wr w.heap.size g vF (.slice none 0 0) ⟨l.take j, []⟩ ∧ Below w.heap.size w wr
/-- A number more, put in its place. -/
theorem rn_step {w W w4 w5 : World} {g : Nat} {vF v4 : Value} {l l' : List Int} (h : RAt W w.heap.size g vF (.slice none 0 0) ⟨l, []⟩) (hB : Below w.heap.size w W) (ho : OwnI w4 w.heap.size v4 l') (hg : W.grownBy w4 vF.ownBlock) (hp : PutW w4 w5 g 57 #[v4, .slice none 0 0]) : RAt w5 w.heap.size g v4 (.slice none 0 0) ⟨l', []⟩ ∧ Below w.heap.size w w5 := by
  have h4g := ho.ne_lies (g := g) (t := 57) (cs := #[vF, .slice none 0 0]) (h.c.same (hg.block g h.c.lt (fun e => h.f.ne_lies h.c (by decide) g e.symm rfl))) (by decide)
  refine ⟨⟨hp.lies, ho.grown hp.grown fun k hk e => h4g k hk (by injection e), OwnE.nil _ _, h.lo⟩, ?_⟩
  have hB4 := hB.grown hg hB.size (fun k hk => (h.f.block k hk).1)
  exact hB4.grown hp.grown hB4.size (fun k hk => by injection hk with hk; have := h.lo; omega)

set_option maxHeartbeats 16000000 in
theorem rnew_any (A : Option Addr) (n c : Nat) (l : List Int) (w : World) (hG : Iin w A n l) (hn : n ≤ 1000) :
    Calls Try.prog 11 #[.slice A n c] w (RnPost w l) := by
  have HG := Lib.hid hG
  have HLN := Lib.hid hG.1
  clear hG
  by_cases h60 : 60 < n
  · have HNO : Hid (newOf l = none) := Lib.hid (by unfold newOf; rw [if_pos (.inl (by rw [HLN.out]; exact h60))])
    have e0 : decide ((60 : Int) < (n : Int)) = true := by simp; omega
    go_enter Try.func11, Try.ntmps11
    go_wp2
    go_ret2
    exact ⟨Below.refl _ _, .inl ⟨HNO.out, rfl⟩⟩
  have e0 : decide ((60 : Int) < (n : Int)) = false := by simp; omega
  go_enter Try.func11, Try.ntmps11
  go_wp2_with fail
  obtain ⟨y, hy⟩ : ∃ y, y = w.alloc (.cells #[.slice none 0 0, .slice none 0 0] 57) := ⟨_, rfl⟩
  rw [← hy]
  have HR0 : Hid (RAt y w.heap.size w.heap.size (.slice none 0 0) (.slice none 0 0) ⟨[], []⟩) := Lib.hid (by
    rw [hy]
    exact ⟨Lies.made _ _ _, OwnE.nil _ _, OwnE.nil _ _, Nat.le_refl _⟩)
  have HB0 : Hid (Below w.heap.size w y) := Lib.hid (by rw [hy]; exact below1 _ _)
  clear hy
  obtain ⟨g, hg⟩ : ∃ g, g = w.heap.size := ⟨_, rfl⟩
  rw [← hg]
  have HGG := Lib.hid hg
  clear hg
  go_loopw [5] (fun v5 wr => RnI w l g v5 wr) (fun i _ => n - (intOf i).toNat)
  case atStart => exact ⟨0, _, by omega, rfl, fun i hi h => by omega, by rw [HGG.out]; exact HR0.out, HB0.out⟩
  case round =>
    clear HR0 HB0
    obtain ⟨j, vF, hj, rfl, hall, hR, hB⟩ := hrel
    have HR := Lib.hid hR
    have HB := Lib.hid hB
    have HALL := Lib.hid hall
    clear hR hB hall
    have hjn : j ≤ n := by have := HLN.out; omega
    by_cases hlt : j < n
    · have hlt2 : (j : Int) < (n : Int) := by omega
      have hlt3 : j < l.length := by have := HLN.out; omega
      obtain ⟨b0, off, rfl, hbl, hcell⟩ := HG.out.2 (by omega)
      have HBL := Lib.hid hbl
      have x0 := hcell j hlt3
      have HXW : Hid (w.cell? ⟨b0, off + j, none⟩ = some (.int .i64 l[j])) := Lib.hid x0
      obtain ⟨x, hx⟩ : ∃ x, l[j] = x := ⟨_, rfl⟩
      rw [hx] at x0 HXW
      have HX := Lib.hid hx
      have HST : Hid (l.take (j + 1) = l.take j ++ [x]) := Lib.hid (by rw [List.take_succ_eq_append_getElem hlt3, hx])
      rw [← HB.out.cell (p := ⟨b0, off + j, none⟩) hbl] at x0
      clear hcell hx
      by_cases b1 : x < 0
      · have b1' : decide (x < 0) = true := by simpa using b1
        have HNO : Hid (newOf l = none) := Lib.hid (by unfold newOf; rw [if_pos (.inr (List.any_eq_true.2 ⟨l[j], List.getElem_mem hlt3, by rw [HX.out]; unfold badI; rw [b1']; rfl⟩))])
        go_wp2
        go_ret2
        exact ⟨HB.out, .inl ⟨HNO.out, rfl⟩⟩
      have b1' : decide (x < 0) = false := by simpa using b1
      by_cases b2 : 1000000 < x
      · have b2' : decide (1000000 < x) = true := by simpa using b2
        have HNO : Hid (newOf l = none) := Lib.hid (by unfold newOf; rw [if_pos (.inr (List.any_eq_true.2 ⟨l[j], List.getElem_mem hlt3, by rw [HX.out]; unfold badI; rw [b2']; simp⟩))])
        go_wp2
        go_ret2
        exact ⟨HB.out, .inl ⟨HNO.out, rfl⟩⟩
      have b2' : decide (1000000 < x) = false := by simpa using b2
      have HGD : Hid (badI x = false) := Lib.hid (by unfold badI; rw [b1', b2']; rfl)
      go_wp2_with fail
      clear b1 b2 b1' b2'
      have hbw : b0 < wr.heap.size := Nat.lt_of_lt_of_le hbl HB.out.size
      have HR3 : Hid (RAt (wr.alloc (.cells #[.int .i64 x] 3)).drew w.heap.size g vF (.slice none 0 0) ⟨l.take j, []⟩) := Lib.hid ((HR.out.alloc (.cells #[.int .i64 x] 3)).drewN 1)
      have HO3 : Hid (OwnI (wr.alloc (.cells #[.int .i64 x] 3)).drew w.heap.size vF (l.take j)) := Lib.hid (HR.out.f.alloc _)
      have LN : Hid (Lies (wr.alloc (.cells #[.int .i64 x] 3)).drew wr.heap.size 3 #[.int .i64 x]) := Lib.hid (Lies.made wr 3 #[.int .i64 x])
      have HSM : Hid ((l.take j).length ≤ 100000) := Lib.hid (by rw [List.length_take]; omega)
      have HBX : Hid (Below w.heap.size w (wr.alloc (.cells #[.int .i64 x] 3)).drew) := Lib.hid (HB.out.alloc HB.out.size (.cells #[.int .i64 x] 3)).drew
      have HBZ : Hid (w.heap.size ≤ (wr.alloc (.cells #[.int .i64 x] 3)).drew.heap.size) := Lib.hid HBX.out.size
      have HX3 : Hid ((wr.alloc (.cells #[.int .i64 x] 3)).drew.cell? ⟨b0, off + j, none⟩ = some (.int .i64 x)) := Lib.hid (by rw [HBX.out.cell (p := ⟨b0, off + j, none⟩) HBL.out]; exact HXW.out)
      have HKEEP : Hid (∀ w4, (wr.alloc (.cells #[.int .i64 x] 3)).drew.grownBy w4 vF.ownBlock → w4.cell? ⟨b0, off + j, none⟩ = some (.int .i64 x)) := Lib.hid (fun w4 hg4 => by
        have hb4 := HBX.out.grown hg4 HBZ.out (fun q hq => (HR3.out.f.block q hq).1)
        rw [hb4.cell (p := ⟨b0, off + j, none⟩) HBL.out]
        exact HXW.out)
      refine wp_region_noPanic ?_
      obtain ⟨c0, c1⟩ := HR.out.c.cells2
      obtain ⟨d0, d1⟩ := HR3.out.c.cells2
      refine wp_region_held_drew (S := fun W => W.cell? ⟨b0, off + j, none⟩ = some (.int .i64 x)) (by kernel_rfl) x0 (fun hH0 => ?_)
      refine any_take 0 29 ?va0 rfl rfl (by kernel_rfl) (by kernel_rfl) (by kernel_rfl) (fun _ _ _ h => h) (by rfl) ?hya0 hH0 ?resta0
      case hya0 => ((intro W hSw); have o2 := hSw; go_simp; (try with_reducible rfl))
      try simp only [Act.put, List.setIfInBounds_toArray, List.set_cons_zero, List.set_cons_succ]
      refine any_take 1 30 ?va1 rfl rfl (by kernel_rfl) (by kernel_rfl) (by kernel_rfl) (fun _ _ _ h => h) (by rfl) ?hya1 hH0 ?resta1
      case hya1 => ((intro W hSw); have o2 := hSw; go_simp; (try with_reducible rfl))
      try simp only [Act.put, List.setIfInBounds_toArray, List.set_cons_zero, List.set_cons_succ]
      refine any_take 2 31 ?va2 rfl rfl (by kernel_rfl) (by kernel_rfl) (by kernel_rfl) (fun _ _ _ h => h) (by rfl) ?hya2 hH0 ?resta2
      case hya2 => ((intro W hSw); have o2 := hSw; go_simp; (try with_reducible rfl))
      try simp only [Act.put, List.setIfInBounds_toArray, List.set_cons_zero, List.set_cons_succ]
      refine any_take 3 32 ?va3 rfl rfl (by kernel_rfl) (by kernel_rfl) (by kernel_rfl) (fun _ _ _ h => h) (by rfl) ?hya3 hH0 ?resta3
      case hya3 => ((intro W hSw); have o2 := hSw; go_simp; (try with_reducible rfl))
      try simp only [Act.put, List.setIfInBounds_toArray, List.set_cons_zero, List.set_cons_succ]
      refine any_take 5 34 ?vb0 rfl rfl (by kernel_rfl) (by kernel_rfl) (by kernel_rfl) (fun _ _ _ h => h) (by rfl) ?hyb0 hH0 ?restb0
      case hyb0 => ((intro W hSw); have o2 := hSw; go_simp; (try with_reducible rfl))
      try simp only [Act.put, List.setIfInBounds_toArray, List.set_cons_zero, List.set_cons_succ]
      refine any_take 6 35 ?vb1 rfl rfl (by kernel_rfl) (by kernel_rfl) (by kernel_rfl) (fun _ _ _ h => h) (by rfl) ?hyb1 hH0 ?restb1
      case hyb1 => ((intro W hSw); have o2 := hSw; go_simp; (try with_reducible rfl))
      try simp only [Act.put, List.setIfInBounds_toArray, List.set_cons_zero, List.set_cons_succ]
      refine any_take 7 36 ?vb2 rfl rfl (by kernel_rfl) (by kernel_rfl) (by kernel_rfl) (fun _ _ _ h => h) (by rfl) ?hyb2 hH0 ?restb2
      case hyb2 => ((intro W hSw); have o2 := hSw; go_simp; (try with_reducible rfl))
      try simp only [Act.put, List.setIfInBounds_toArray, List.set_cons_zero, List.set_cons_succ]
      refine any_take 8 37 ?vb3 rfl rfl (by kernel_rfl) (by kernel_rfl) (by kernel_rfl) (fun _ _ _ h => h) (by rfl) ?hyb3 hH0 ?restb3
      case hyb3 => ((intro W hSw); have o2 := hSw; go_simp; (try with_reducible rfl))
      try simp only [Act.put, List.setIfInBounds_toArray, List.set_cons_zero, List.set_cons_succ]
      refine wpAnyH_ready (rs := [4, 9]) (by kernel_rfl) (by simp) ?_
      refine AllReadyH.cons rfl (fun K hK => ?ord1) (AllReadyH.cons rfl (fun K hK => ?ord2) AllReadyH.nil)
      case ord1 =>
        go_simp
        refine hK.out _ _ x0 (fun hH1 => ?_)
        clear hK K hH0
        try simp only [Act.put, List.setIfInBounds_toArray, List.set_cons_zero, List.set_cons_succ]
        refine wpAnyH_ready (rs := [9]) (by kernel_rfl) (by simp) ?_
        refine AllReadyH.cons rfl (fun K hK => ?_) AllReadyH.nil
        go_simp
        refine hK.out _ _ HX3.out (fun hH2 => ?_)
        clear hK K hH1
        try simp only [Act.put, List.setIfInBounds_toArray, List.set_cons_zero, List.set_cons_succ]
        refine wpAnyH_ready (rs := [10]) (by kernel_rfl) (by simp) ?_
        refine AllReadyH.cons rfl (fun K hK => ?_) AllReadyH.nil
        refine stp_appI (some 39) _ _ _ (.tmp 33) (.tmp 38) w.heap.size vF (l.take j) wr.heap.size x rfl rfl HO3.out LN.out HSM.out HBZ.out (fun v4 w4 ho4 hg4 hb4 => ?_)
        have HL4 : Hid (Lies w4 g 57 #[vF, .slice none 0 0]) := Lib.hid (HR3.out.c.same (hg4.block g HR3.out.c.lt (fun e => HR3.out.f.ne_lies HR3.out.c (by decide) g e.symm rfl)))
        have HX4 : Hid (w4.cell? ⟨b0, off + j, none⟩ = some (.int .i64 x)) := Lib.hid (HKEEP.out w4 hg4)
        have HO4 := Lib.hid ho4
        have HG4 := Lib.hid hg4
        have HONE := Lib.hid ho4.one
        clear ho4 hg4 hb4
        refine hK.out _ _ HX4.out (fun hHa => ?_)
        clear hK K hH2
        try simp only [Act.put, List.setIfInBounds_toArray, List.set_cons_zero, List.set_cons_succ]
        refine any_take 11 40 ?vp2 rfl rfl (by kernel_rfl) (by kernel_rfl) (by kernel_rfl) (fun _ _ _ h => h) (by rfl) ?hyp2 hHa ?restp2
        case hyp2 => ((intro W hSw); have o2 := hSw; go_simp; (try with_reducible rfl))
        try simp only [Act.put, List.setIfInBounds_toArray, List.set_cons_zero, List.set_cons_succ]
        refine any_take 12 41 ?vq2 rfl rfl (by kernel_rfl) (by kernel_rfl) (by kernel_rfl) (fun _ _ _ h => h) (by rfl) ?hyq2 hHa ?restq2
        case hyq2 => ((intro W hSw); have o2 := hSw; go_simp; (try with_reducible rfl))
        try simp only [Act.put, List.setIfInBounds_toArray, List.set_cons_zero, List.set_cons_succ]
        refine wpAnyH_ready (rs := [13]) (by kernel_rfl) (by simp) ?_
        refine AllReadyH.cons rfl (fun K hK => ?_) AllReadyH.nil
        refine stp_putC none _ _ _ 22 (.tmp 41) (.tmp 39) g 0 57 _ v4 rfl rfl HL4.out (by simp) (by kernel_rfl) HONE.out (fun w5 hp5 => ?_)
        have HFIN := Lib.hid (rn_step HR3.out HBX.out HO4.out HG4.out hp5)
        have HX5 : Hid (w5.cell? ⟨b0, off + j, none⟩ = some (.int .i64 x)) := Lib.hid (by rw [HFIN.out.2.cell (p := ⟨b0, off + j, none⟩) HBL.out]; exact HXW.out)
        refine hK.out _ _ HX5.out (fun hHb => ?_)
        clear hK K hHa hHb hp5
        try simp only [Act.put, List.setIfInBounds_toArray, List.set_cons_zero, List.set_cons_succ]
        refine wpAnyH_done (by kernel_rfl) ?_ _
        refine NoPanic.normal ?_
        clear c0 c1 d0 d1 x0
        go_wp2
        go_roundw
        case rel =>
          refine ⟨j + 1, v4, by omega, by go_num, fun i hi h => ?_, by rw [HST.out]; exact HFIN.out.1, HFIN.out.2⟩
          by_cases e : i = j
          · subst e; rw [HX.out]; exact HGD.out
          · exact HALL.out i hi (by omega)
        case measure => simp [intOf]; omega
      case ord2 =>
        go_simp
        refine hK.out _ _ HX3.out (fun hH1 => ?_)
        clear hK K hH0
        try simp only [Act.put, List.setIfInBounds_toArray, List.set_cons_zero, List.set_cons_succ]
        refine wpAnyH_ready (rs := [4]) (by kernel_rfl) (by simp) ?_
        refine AllReadyH.cons rfl (fun K hK => ?_) AllReadyH.nil
        go_simp
        refine hK.out _ _ HX3.out (fun hH3 => ?_)
        clear hK K hH1
        try simp only [Act.put, List.setIfInBounds_toArray, List.set_cons_zero, List.set_cons_succ]
        refine wpAnyH_ready (rs := [10]) (by kernel_rfl) (by simp) ?_
        refine AllReadyH.cons rfl (fun K hK => ?_) AllReadyH.nil
        refine stp_appI (some 39) _ _ _ (.tmp 33) (.tmp 38) w.heap.size vF (l.take j) wr.heap.size x rfl rfl HO3.out LN.out HSM.out HBZ.out (fun v4 w4 ho4 hg4 hb4 => ?_)
        have HL4 : Hid (Lies w4 g 57 #[vF, .slice none 0 0]) := Lib.hid (HR3.out.c.same (hg4.block g HR3.out.c.lt (fun e => HR3.out.f.ne_lies HR3.out.c (by decide) g e.symm rfl)))
        have HX4 : Hid (w4.cell? ⟨b0, off + j, none⟩ = some (.int .i64 x)) := Lib.hid (HKEEP.out w4 hg4)
        have HO4 := Lib.hid ho4
        have HG4 := Lib.hid hg4
        have HONE := Lib.hid ho4.one
        clear ho4 hg4 hb4
        refine hK.out _ _ HX4.out (fun hHa => ?_)
        clear hK K hH3
        try simp only [Act.put, List.setIfInBounds_toArray, List.set_cons_zero, List.set_cons_succ]
        refine any_take 11 40 ?vp3 rfl rfl (by kernel_rfl) (by kernel_rfl) (by kernel_rfl) (fun _ _ _ h => h) (by rfl) ?hyp3 hHa ?restp3
        case hyp3 => ((intro W hSw); have o2 := hSw; go_simp; (try with_reducible rfl))
        try simp only [Act.put, List.setIfInBounds_toArray, List.set_cons_zero, List.set_cons_succ]
        refine any_take 12 41 ?vq3 rfl rfl (by kernel_rfl) (by kernel_rfl) (by kernel_rfl) (fun _ _ _ h => h) (by rfl) ?hyq3 hHa ?restq3
        case hyq3 => ((intro W hSw); have o2 := hSw; go_simp; (try with_reducible rfl))
        try simp only [Act.put, List.setIfInBounds_toArray, List.set_cons_zero, List.set_cons_succ]
        refine wpAnyH_ready (rs := [13]) (by kernel_rfl) (by simp) ?_
        refine AllReadyH.cons rfl (fun K hK => ?_) AllReadyH.nil
        refine stp_putC none _ _ _ 22 (.tmp 41) (.tmp 39) g 0 57 _ v4 rfl rfl HL4.out (by simp) (by kernel_rfl) HONE.out (fun w5 hp5 => ?_)
        have HFIN := Lib.hid (rn_step HR3.out HBX.out HO4.out HG4.out hp5)
        have HX5 : Hid (w5.cell? ⟨b0, off + j, none⟩ = some (.int .i64 x)) := Lib.hid (by rw [HFIN.out.2.cell (p := ⟨b0, off + j, none⟩) HBL.out]; exact HXW.out)
        refine hK.out _ _ HX5.out (fun hHb => ?_)
        clear hK K hHa hHb hp5
        try simp only [Act.put, List.setIfInBounds_toArray, List.set_cons_zero, List.set_cons_succ]
        refine wpAnyH_done (by kernel_rfl) ?_ _
        refine NoPanic.normal ?_
        clear c0 c1 d0 d1 x0
        go_wp2
        go_roundw
        case rel =>
          refine ⟨j + 1, v4, by omega, by go_num, fun i hi h => ?_, by rw [HST.out]; exact HFIN.out.1, HFIN.out.2⟩
          by_cases e : i = j
          · subst e; rw [HX.out]; exact HGD.out
          · exact HALL.out i hi (by omega)
        case measure => simp [intOf]; omega
    · have hlt2 : decide ((j : Int) < (n : Int)) = false := by simp; omega
      have HNO : Hid (newOf l = some l) := Lib.hid (by
        unfold newOf
        rw [if_neg]
        rintro (h | h)
        · rw [HLN.out] at h; exact h60 h
        · obtain ⟨z, hz, hb⟩ := List.any_eq_true.1 h
          obtain ⟨i, hi, rfl⟩ := List.getElem_of_mem hz
          rw [HALL.out i hi (by have := HLN.out; omega)] at hb
          cases hb)
      have HTK : Hid (l.take j = l) := Lib.hid (List.take_of_length_le (by have := HLN.out; omega))
      rw [HTK.out] at HR
      go_wp2
      go_ret2
      exact ⟨HB.out, .inr ⟨g, vF, _, HNO.out, rfl, HR.out⟩⟩

end Go.Proofs.Ytnajombhlmbopaa
