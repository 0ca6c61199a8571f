/-
  The contract of epochs.Add: for every slice of starts, and every start.
-/
import Derived.Test.YtngnfgnaagbpjaaCutF
import Derived.Test.YtngnfgnaagbpjaaRegLaw
namespace Go.Proofs.Ytngnfgnaagbpjaa
open Go.RowKit

def AddPost (w : World) (t : Tbl) (s : Nat × Nat) (x : Ending) (w' : World) : Prop := ∃ v, x = .returned (.tuple #[v, .int .i64 (chk (t ++ [s]) : Nat)]) ∧ OwnT w' w.heap.size v (addS t s) ∧ Below w.heap.size w w'

theorem fits_one {e l : Nat} (he : e < 4294967296) (hl : l < 18446744073709551616) : Fits [(e, l)] := fun i => by
  rcases i with _ | i
  · exact ⟨he, hl⟩
  · simp [ep, ls]

set_option maxRecDepth 100000 in
/-- 'append' of one start where the order is open. -/
theorem stp_append {ops : Array Oper} {a : Act} {w : World} {K : Act → World → Prop} {Q : Exit → Act → World → Prop} {E : Prop} (dst : Option Tmp) (ty : TypeId) (pos : String) (aft : Array Edge) (s x : Operand)
    (B : Nat) (v : Value) (t : Tbl) (g0 e l : Nat)
    (hs : a.eval s = v) (hx : a.eval x = .slice (some ⟨g0, 0, none⟩) 1 1) (hown : OwnT w B v t) (hg : Lies w g0 37 (scs e l)) (he : e < 4294967296) (hl : l < 18446744073709551616) (hsm : t.length ≤ 100000) (hB : B ≤ w.heap.size)
    (h : ∀ g cap w', OwnT w' B (.slice (some ⟨g, 0, none⟩) (t.length + 1) cap) (t ++ [(e, l)]) → w.grownBy w' v.ownBlock → K (a.put dst (.slice (some ⟨g, 0, none⟩) (t.length + 1) cap)) w') :
    if Region.wanted ⟨dst, .call { callee := .builtin .append, args := #[s, x], argTypes := #[22, 22] }, ty, pos, aft, none⟩ (yielded ops a.tmps) = true then Oper.wp Try.prog ⟨dst, .call { callee := .builtin .append, args := #[s, x], argTypes := #[22, 22] }, ty, pos, aft, none⟩ a w K Q else E := by
  refine step_append_lies w (o := ⟨dst, .call { callee := .builtin .append, args := #[s, x], argTypes := #[22, 22] }, ty, pos, aft, none⟩) rfl s x 22 rfl B 37 _ zS 2 16 Try.underlying22 Try.type37 rfl rfl rfl rfl (by decide) v t.length (tvals t) hs hown.1
      ⟨g0, 0, none⟩ 1 1 (tvals [(e, l)]) hx rfl (fun j u hu => ?_) (tvals_one _) (by decide) (by unfold maxLen; omega) (by omega) hB w.heap.size rfl ?_
  · rw [add_off, Nat.zero_add, hg.cell]
    rcases j with _ | _ | j
    · exact hu
    · exact hu
    · simp [tvals] at hu
  intro g cap w' h1 h2 _ _
  refine h g cap w' ⟨?_, fits_append hown.2 (fits_one he hl)⟩ h2
  rw [List.length_append, tvals_append]
  exact h1

set_option maxRecDepth 100000 in
set_option maxHeartbeats 4000000 in
theorem add_any (a : Option Addr) (n cap e l : Nat) (t : Tbl) (w : World) (hT : Tab w a n t) (hA : a = none → cap = 0) (hn : n ≤ 100000) (he : e < 4294967296) (hl : l < 18446744073709551616) :
    Calls Try.prog 23 #[.slice a n cap, .agg #[.int .u32 (e : Int), .int .u64 (l : Int)]] w (AddPost w t (e, l)) := by
  have CC := Lib.hid (fun W (h : Tab W a n t) => clone_any a n cap t W h hA hn)
  have HT := Lib.hid (fun W (h : Below w.heap.size w W) => hT.below h)
  have HLEN := Lib.hid hT.1
  have HCC := Lib.hid (fun W (h : Lies W w.heap.size 37 (scs e l)) => (⟨h.cell 0, h.cell 1⟩ : W.cell? ⟨w.heap.size, 0, none⟩ = some (.int .u32 (e : Int)) ∧ W.cell? ⟨w.heap.size, 1, none⟩ = some (.int .u64 (l : Int))))
  have HL1 := Lib.hid (Lies.made w 37 (scs e l))
  have HB1 := Lib.hid (below1 w (.cells (scs e l) 37))
  have hlen : (t ++ [(e, l)]).length = n + 1 := by rw [List.length_append, hT.1]; rfl
  have HLEN1 := Lib.hid hlen
  clear hT hA hlen
  have HPOST : Hid (∀ g c w8, OwnT w8 w.heap.size (.slice (some ⟨g, 0, none⟩) (n + 1) c) (t ++ [(e, l)]) → Below w.heap.size w w8 → Calls Try.prog 13 #[.slice (some ⟨g, 0, none⟩) (n + 1) c] w8 fun x w' => x = .returned (.int .i64 (chk (t ++ [(e, l)]) : Nat)) ∧ Below w8.heap.size w8 w') := by
    refine Lib.hid fun g c w8 ho hb => ?_
    obtain ⟨A, c', h1, h2, _⟩ := ho.slice
    rw [HLEN1.out] at h1 h2
    injection h1 with q1 q2 q3
    subst q1 q3
    exact check_any _ _ _ _ _ h2 (small_len _ (by omega))
  have HADD : Hid (addS t (e, l) = if isT (t ++ [(e, l)]) then t ++ [(e, l)] else []) := Lib.hid rfl
  go_enter Try.func23, Try.ntmps23
  go_wp2_with fail
  refine wp_region_noPanic ?_
  refine wp_region_held_drew (S := fun W => W.cell? ⟨w.heap.size, 0, none⟩ = some (.int .u32 (e : Int)) ∧ W.cell? ⟨w.heap.size, 1, none⟩ = some (.int .u64 (l : Int))) (by kernel_rfl) (HCC.out _ HL1.out) (fun hH => ?_)
  refine any_take 0 8 ?va0 rfl rfl (by kernel_rfl) (by kernel_rfl) (by kernel_rfl) (fun _ _ _ h => h) (by rfl) ?hya0 hH ?resta0
  case hya0 => ((intro W hSw); go_simp; (try with_reducible rfl))
  try simp only [Act.put, List.setIfInBounds_toArray, List.set_cons_zero, List.set_cons_succ]
  refine any_take 2 10 ?va2 rfl rfl (by kernel_rfl) (by kernel_rfl) (by kernel_rfl) (fun _ _ _ h => h) (by rfl) ?hya2 hH ?resta2
  case hya2 => ((intro W hSw); (obtain ⟨g0, g1⟩ := hSw); go_simp; (try with_reducible rfl))
  try simp only [Act.put, List.setIfInBounds_toArray, List.set_cons_zero, List.set_cons_succ]
  refine wpAnyH_ready (rs := [1, 3]) (by kernel_rfl) (by simp) ?_
  refine AllReadyH.cons rfl (fun K hK => ?_) (AllReadyH.cons rfl (fun K hK => ?_) AllReadyH.nil)
  · go_simp
    go_at_call 31
    with_reducible refine (CC.out _ (HT.out _ HB1.out.drew)).mono ?_
    rintro x w2 ⟨v2, rfl, ho2, hb2⟩
    have HL2 := Lib.hid (Lies.below (w := (w.alloc (.cells (scs e l) 37)).drew) HL1.out hb2 (by simp))
    have HB2 := Lib.hid (HB1.out.drew.trans (hb2.mono (by simp)))
    have HNE : Hid (some w.heap.size ≠ v2.ownBlock) := Lib.hid (fun q => by have := ho2.block w.heap.size q.symm; simp at this; omega)
    have HO2 := Lib.hid (ho2.mono (B' := w.heap.size) (by simp))
    clear ho2 hb2
    refine hK.out _ _ (HCC.out _ HL2.out) (fun hH2 => ?_)
    clear hK K hH
    try simp only [Act.put, List.setIfInBounds_toArray, List.set_cons_zero, List.set_cons_succ]
    refine wpAnyH_ready (rs := [3]) (by kernel_rfl) (by simp) ?_
    refine AllReadyH.cons rfl (fun K hK => ?_) AllReadyH.nil
    go_simp
    have HL3 := Lib.hid (HL2.out.alloc (.cells (scs e l) 37))
    have HB3 := Lib.hid (HB2.out.alloc HB2.out.size (.cells (scs e l) 37))
    have HO3 := Lib.hid (HO2.out.alloc (.cells (scs e l) 37))
    have HN3 := Lib.hid (Lies.made w2 37 (scs e l))
    refine hK.out _ _ (HCC.out _ HL3.out) (fun hH3 => ?_)
    clear hK K hH2
    try simp only [Act.put, List.setIfInBounds_toArray, List.set_cons_zero, List.set_cons_succ]
    refine wpAnyH_ready (rs := [4]) (by kernel_rfl) (by simp) ?_
    refine AllReadyH.cons rfl (fun K hK => ?_) AllReadyH.nil
    refine stp_append (some 12) _ _ _ (.tmp 9) (.tmp 11) w.heap.size v2 t w2.heap.size e l rfl rfl HO3.out HN3.out he hl (by rw [HLEN.out]; exact hn) HB3.out.size ?_
    intro g c7 w7 ho7 hg7
    rw [HLEN.out] at ho7 ⊢
    have HB7 := Lib.hid (HO3.out.grows hg7 HB3.out (Nat.le_refl _) HB3.out.size)
    have HO7 := Lib.hid ho7
    have HL7 := Lib.hid (HL3.out.grown hg7 HNE.out)
    refine hK.out _ _ (HCC.out _ HL7.out) (fun hH4 => ?_)
    clear hK K hH3 ho7 hg7
    try simp only [Act.put, List.setIfInBounds_toArray, List.set_cons_zero, List.set_cons_succ]
    refine any_take 5 6 ?vA5 rfl rfl (by kernel_rfl) (by kernel_rfl) (by kernel_rfl) (fun _ _ _ h => h) (by rfl) ?hyA5 hH4 ?restA5
    case hyA5 => ((intro W hSw); go_simp; (try with_reducible rfl))
    try simp only [Act.put, List.setIfInBounds_toArray, List.set_cons_zero, List.set_cons_succ]
    refine wpAnyH_done (by kernel_rfl) ?_ _
    refine NoPanic.normal ?_
    clear hH4
    have C8 := Lib.hid (HPOST.out g c7 w7 HO7.out HB7.out)
    clear CC HCC HPOST HT HL1 HL2 HL3 HL7 HNE HN3 HB3 HO3
    rcases chk_cases (t ++ [(e, l)]) with ⟨hM, hc⟩ | ⟨hM, hc⟩
    · rw [hc] at C8
      rw [if_pos hM] at HADD
      have HC := Lib.hid hc
      clear hM hc
      go_wp2_with fail
      with_reducible refine C8.out.mono ?_
      rintro x w9 ⟨rfl, hb9⟩
      rw [show ((0 : Nat) : Int) = 0 from rfl]
      go_wp2
      go_ret2
      exact ⟨_, by rw [HC.out]; rfl, by rw [HADD.out]; exact HO7.out.belowT hb9, HB7.out.trans (hb9.mono HB7.out.size)⟩
    · rw [hc] at C8
      rw [if_neg hM] at HADD
      have HC := Lib.hid hc
      clear hM hc
      go_wp2_with fail
      with_reducible refine C8.out.mono ?_
      rintro x w9 ⟨rfl, hb9⟩
      rw [show ((60 : Nat) : Int) = 60 from rfl]
      go_wp2
      go_ret2
      exact ⟨_, by rw [HC.out]; rfl, by rw [HADD.out]; exact OwnT.nil _ _, HB7.out.trans (hb9.mono HB7.out.size)⟩
  · go_simp
    have HL2 := Lib.hid (HL1.out.alloc (.cells (scs e l) 37))
    have HN2 := Lib.hid (Lies.made2 w (.cells (scs e l) 37) 37 (scs e l))
    have HB2 := Lib.hid (below2 w (.cells (scs e l) 37) (.cells (scs e l) 37))
    refine hK.out _ _ (HCC.out _ HL2.out) (fun hH2 => ?_)
    clear hK K hH
    try simp only [Act.put, List.setIfInBounds_toArray, List.set_cons_zero, List.set_cons_succ]
    refine wpAnyH_ready (rs := [1]) (by kernel_rfl) (by simp) ?_
    refine AllReadyH.cons rfl (fun K hK => ?_) AllReadyH.nil
    go_simp
    go_at_call 31
    with_reducible refine (CC.out _ (HT.out _ HB2.out.drew)).mono ?_
    rintro x w3 ⟨v2, rfl, ho2, hb2⟩
    have HL3 := Lib.hid (Lies.below (w := ((w.alloc (.cells (scs e l) 37)).alloc (.cells (scs e l) 37)).drew) HL2.out hb2 (by simp; omega))
    have HN3 := Lib.hid (Lies.below (w := ((w.alloc (.cells (scs e l) 37)).alloc (.cells (scs e l) 37)).drew) HN2.out hb2 (by simp))
    have HB3 := Lib.hid (HB2.out.drew.trans (hb2.mono (by simp; omega)))
    have HNE : Hid (some w.heap.size ≠ v2.ownBlock) := Lib.hid (fun q => by have := ho2.block w.heap.size q.symm; simp at this; omega)
    have HO3 := Lib.hid (ho2.mono (B' := w.heap.size) (by simp; omega))
    clear ho2 hb2
    refine hK.out _ _ (HCC.out _ HL3.out) (fun hH3 => ?_)
    clear hK K hH2
    try simp only [Act.put, List.setIfInBounds_toArray, List.set_cons_zero, List.set_cons_succ]
    refine wpAnyH_ready (rs := [4]) (by kernel_rfl) (by simp) ?_
    refine AllReadyH.cons rfl (fun K hK => ?_) AllReadyH.nil
    refine stp_append (some 12) _ _ _ (.tmp 9) (.tmp 11) w.heap.size v2 t (w.heap.size + 1) e l rfl rfl HO3.out HN3.out he hl (by rw [HLEN.out]; exact hn) HB3.out.size ?_
    intro g c7 w7 ho7 hg7
    rw [HLEN.out] at ho7 ⊢
    have HB7 := Lib.hid (HO3.out.grows hg7 HB3.out (Nat.le_refl _) HB3.out.size)
    have HO7 := Lib.hid ho7
    have HL7 := Lib.hid (HL3.out.grown hg7 HNE.out)
    refine hK.out _ _ (HCC.out _ HL7.out) (fun hH4 => ?_)
    clear hK K hH3 ho7 hg7
    try simp only [Act.put, List.setIfInBounds_toArray, List.set_cons_zero, List.set_cons_succ]
    refine any_take 5 6 ?vB5 rfl rfl (by kernel_rfl) (by kernel_rfl) (by kernel_rfl) (fun _ _ _ h => h) (by rfl) ?hyB5 hH4 ?restB5
    case hyB5 => ((intro W hSw); go_simp; (try with_reducible rfl))
    try simp only [Act.put, List.setIfInBounds_toArray, List.set_cons_zero, List.set_cons_succ]
    refine wpAnyH_done (by kernel_rfl) ?_ _
    refine NoPanic.normal ?_
    clear hH4
    have C8 := Lib.hid (HPOST.out g c7 w7 HO7.out HB7.out)
    clear CC HCC HPOST HT HL1 HL2 HL3 HL7 HNE HN3 HB3 HO3
    rcases chk_cases (t ++ [(e, l)]) with ⟨hM, hc⟩ | ⟨hM, hc⟩
    · rw [hc] at C8
      rw [if_pos hM] at HADD
      have HC := Lib.hid hc
      clear hM hc
      go_wp2_with fail
      with_reducible refine C8.out.mono ?_
      rintro x w9 ⟨rfl, hb9⟩
      rw [show ((0 : Nat) : Int) = 0 from rfl]
      go_wp2
      go_ret2
      exact ⟨_, by rw [HC.out]; rfl, by rw [HADD.out]; exact HO7.out.belowT hb9, HB7.out.trans (hb9.mono HB7.out.size)⟩
    · rw [hc] at C8
      rw [if_neg hM] at HADD
      have HC := Lib.hid hc
      clear hM hc
      go_wp2_with fail
      with_reducible refine C8.out.mono ?_
      rintro x w9 ⟨rfl, hb9⟩
      rw [show ((60 : Nat) : Int) = 60 from rfl]
      go_wp2
      go_ret2
      exact ⟨_, by rw [HC.out]; rfl, by rw [HADD.out]; exact OwnT.nil _ _, HB7.out.trans (hb9.mono HB7.out.size)⟩

end Go.Proofs.Ytngnfgnaagbpjaa
