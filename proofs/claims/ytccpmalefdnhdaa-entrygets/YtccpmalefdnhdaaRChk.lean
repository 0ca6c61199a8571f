/-
  The contract of the document's Check: for every entry.
-/
import Derived.Test.YtccpmalefdnhdaaFlds
import Derived.Test.YtccpmalefdnhdaaRMath
import Derived.Test.YtccpmalefdnhdaaSame4
namespace Go.Proofs.Ytccpmalefdnhdaa
open Go.RowKit
set_option linter.unusedSimpArgs false
set_option linter.unusedVariables false

theorem plain_V {w : World} {e : Entry} {A1 A2 : Option Addr} {c1 c2 : Nat} (h : EntV w e A1 A2 c1 c2) :
    ∃ B1 B2 d1 d2, (if Ent.hasT e.kind then Value.slice A1 e.key.length c1 else nilV) = .slice B1 (plainE e).key.length d1 ∧ (if Ent.hasT e.kind then Value.slice A2 e.data.length c2 else nilV) = .slice B2 (plainE e).data.length d2 ∧ EntV w (plainE e) B1 B2 d1 d2 := by
  have hb : Ent.Bnd (plainE e) := by
    refine ⟨h.b.lsn, h.b.epoch, ?_, ?_, ?_, ?_⟩
    · show (if Ent.hasO e.kind then e.order else 0) < _
      split
      · exact h.b.order
      · decide
    · show (if Ent.hasM e.kind then e.mark else 0) < _
      split
      · exact h.b.mark
      · decide
    · show ∀ c ∈ (if Ent.hasT e.kind then e.key else []), c < 256
      split
      · exact h.b.key
      · intro c hc; cases hc
    · show ∀ c ∈ (if Ent.hasT e.kind then e.data else []), c < 256
      split
      · exact h.b.data
      · intro c hc; cases hc
  cases hT : Ent.hasT e.kind
  · have hk : (plainE e).key = [] := by unfold plainE; simp [hT]
    have hd : (plainE e).data = [] := by unfold plainE; simp [hT]
    refine ⟨none, none, 0, 0, by rw [hk]; rfl, by rw [hd]; rfl, EntV.nil w _ hk hd hb⟩
  · have hk : (plainE e).key = e.key := by unfold plainE; simp [hT]
    have hd : (plainE e).data = e.data := by unfold plainE; simp [hT]
    exact ⟨A1, A2, c1, c2, by rw [hk]; rfl, by rw [hd]; rfl, by rw [hk]; exact h.k, by rw [hk]; exact h.kc, h.km, h.ka, by rw [hd]; exact h.d, by rw [hd]; exact h.dc, h.dm, h.da, hb⟩

set_option maxRecDepth 100000 in
set_option maxHeartbeats 4000000 in
theorem rchk_a (e : Entry) (A1 A2 : Option Addr) (c1 c2 : Nat) (w : World) (hV : EntV w e A1 A2 c1 c2) (h1 : okF e = false) :
    Calls Try.prog 36 #[.agg (evs e (.slice A1 e.key.length c1) (.slice A2 e.data.length c2))] w (ChkPost e w) := by
  have hcn : chkN e = 40 := by unfold chkN; rw [if_neg (fun hh => by have h2 := ((ok_ref e).1 hh).1; rw [h1] at h2; cases h2)]
  unfold ChkPost
  rw [hcn]
  obtain ⟨B1, B2, d1, d2, hKe, hDe, hVp⟩ := plain_V hV
  have cf := fields_any e A1 A2 c1 c2 _ (hV.below ((Below.refl w.heap.size w).alloc (Nat.le_refl _) (.cells (evs e (.slice A1 e.key.length c1) (.slice A2 e.data.length c2)) 26)))
  unfold FldsPost at cf
  rw [h1] at cf
  have CF := Lib.hid cf
  have cpl := fun W => plain_any e A1 A2 c1 c2 W
  unfold PlainPost at cpl
  rw [hKe, hDe] at cpl
  have CPL := Lib.hid cpl
  have csm := fun W (h : EntV W e A1 A2 c1 c2) (h2 : EntV W (plainE e) B1 B2 d1 d2) => same4_any e (plainE e) A1 A2 B1 B2 c1 c2 d1 d2 W h h2
  have CSM := Lib.hid csm
  have HV := Lib.hid hV
  have HVP := Lib.hid hVp
  clear cf cpl csm hV hVp hKe hDe
  go_enter Try.func36, Try.ntmps36
  go_wp2_with fail
  with_reducible refine CF.out.mono ?_
  rintro x w1 ⟨v, rfl, hb1, _⟩
  have L1 := (Lies.made w 26 (evs e (.slice A1 e.key.length c1) (.slice A2 e.data.length c2))).below hb1 (by simp)
  have b1 : Below w.heap.size w w1 := ((Below.refl w.heap.size w).alloc (Nat.le_refl _) _).trans (hb1.mono (by simp))
  have BB1 := Lib.hid b1
  have hc5 : ∀ W, Below w1.drew.heap.size w1.drew W → (W.cell? ⟨w.heap.size, 0, none⟩ = some (.int .i64 e.kind) ∧ W.cell? ⟨w.heap.size, 1, none⟩ = some (.int .u64 (e.lsn : Nat)) ∧ W.cell? ⟨w.heap.size, 2, none⟩ = some (.int .u32 (e.epoch : Nat)) ∧ W.cell? ⟨w.heap.size, 3, none⟩ = some (.int .u32 (e.order : Nat)) ∧ W.cell? ⟨w.heap.size, 4, none⟩ = some (.int .i64 e.step) ∧ W.cell? ⟨w.heap.size, 5, none⟩ = some (.bool e.undo) ∧ W.cell? ⟨w.heap.size, 6, none⟩ = some (.int .i64 e.tri) ∧ W.cell? ⟨w.heap.size, 7, none⟩ = some (.int .i64 e.code) ∧ W.cell? ⟨w.heap.size, 8, none⟩ = some (.int .u64 (e.mark : Nat)) ∧ W.cell? ⟨w.heap.size, 9, none⟩ = some (.slice A1 e.key.length c1) ∧ W.cell? ⟨w.heap.size, 10, none⟩ = some (.slice A2 e.data.length c2)) := fun W hb => (Lies.below (w := w1.drew) L1 hb L1.lt).cellsE
  have HC5 := Lib.hid hc5
  clear hc5 L1 hb1 b1 CF
  go_wp2_with fail
  refine wp_region_noPanic ?_
  refine wp_region_held_drew (S := fun W => W.cell? ⟨w.heap.size, 0, none⟩ = some (.int .i64 e.kind) ∧ W.cell? ⟨w.heap.size, 1, none⟩ = some (.int .u64 (e.lsn : Nat)) ∧ W.cell? ⟨w.heap.size, 2, none⟩ = some (.int .u32 (e.epoch : Nat)) ∧ W.cell? ⟨w.heap.size, 3, none⟩ = some (.int .u32 (e.order : Nat)) ∧ W.cell? ⟨w.heap.size, 4, none⟩ = some (.int .i64 e.step) ∧ W.cell? ⟨w.heap.size, 5, none⟩ = some (.bool e.undo) ∧ W.cell? ⟨w.heap.size, 6, none⟩ = some (.int .i64 e.tri) ∧ W.cell? ⟨w.heap.size, 7, none⟩ = some (.int .i64 e.code) ∧ W.cell? ⟨w.heap.size, 8, none⟩ = some (.int .u64 (e.mark : Nat)) ∧ W.cell? ⟨w.heap.size, 9, none⟩ = some (.slice A1 e.key.length c1) ∧ W.cell? ⟨w.heap.size, 10, none⟩ = some (.slice A2 e.data.length c2)) (by kernel_rfl) (HC5.out _ (Below.refl _ _)) (fun hH => ?_)
  refine any_take 0 10 ?va0 rfl rfl (by kernel_rfl) (by kernel_rfl) (by kernel_rfl) (fun _ _ _ h => h) (by rfl) ?hya0 hH ?resta0
  case hya0 => ((intro W hSw); go_simp; (try with_reducible rfl))
  try simp only [Act.put, List.setIfInBounds_toArray, List.set_cons_zero, List.set_cons_succ]
  refine any_take 1 11 ?va1 rfl rfl (by kernel_rfl) (by kernel_rfl) (by kernel_rfl) (fun _ _ _ h => h) (by rfl) ?hya1 hH ?resta1
  case hya1 => ((intro W hSw); go_simp; (try with_reducible rfl))
  try simp only [Act.put, List.setIfInBounds_toArray, List.set_cons_zero, List.set_cons_succ]
  refine any_take 2 12 ?va2 rfl rfl (by kernel_rfl) (by kernel_rfl) (by kernel_rfl) (fun _ _ _ h => h) (by rfl) ?hya2 hH ?resta2
  case hya2 => ((intro W hSw); go_simp; (try with_reducible rfl))
  try simp only [Act.put, List.setIfInBounds_toArray, List.set_cons_zero, List.set_cons_succ]
  refine any_skip 3 13 rfl rfl (by kernel_rfl) (by kernel_rfl) (by kernel_rfl) (fun _ _ _ h => h) (by rfl) hH ?_
  try simp only [Act.put, List.setIfInBounds_toArray, List.set_cons_zero, List.set_cons_succ]
  refine any_skip 4 14 rfl rfl (by kernel_rfl) (by kernel_rfl) (by kernel_rfl) (fun _ _ _ h => h) (by rfl) hH ?_
  try simp only [Act.put, List.setIfInBounds_toArray, List.set_cons_zero, List.set_cons_succ]
  refine any_skip 5 15 rfl rfl (by kernel_rfl) (by kernel_rfl) (by kernel_rfl) (fun _ _ _ h => h) (by rfl) hH ?_
  try simp only [Act.put, List.setIfInBounds_toArray, List.set_cons_zero, List.set_cons_succ]
  refine any_take 6 16 ?va6 rfl rfl (by kernel_rfl) (by kernel_rfl) (by kernel_rfl) (fun _ _ _ h => h) (by rfl) ?hya6 hH ?resta6
  case hya6 => ((intro W hSw); go_simp; (try with_reducible rfl))
  try simp only [Act.put, List.setIfInBounds_toArray, List.set_cons_zero, List.set_cons_succ]
  refine any_take 7 17 ?va7 rfl rfl (by kernel_rfl) (by kernel_rfl) (by kernel_rfl) (fun _ _ _ h => h) (by rfl) ?hya7 hH ?resta7
  case hya7 => ((intro W hSw); go_simp; (try with_reducible rfl))
  try simp only [Act.put, List.setIfInBounds_toArray, List.set_cons_zero, List.set_cons_succ]
  refine any_skip 8 18 rfl rfl (by kernel_rfl) (by kernel_rfl) (by kernel_rfl) (fun _ _ _ h => h) (by rfl) hH ?_
  try simp only [Act.put, List.setIfInBounds_toArray, List.set_cons_zero, List.set_cons_succ]
  refine any_skip 9 19 rfl rfl (by kernel_rfl) (by kernel_rfl) (by kernel_rfl) (fun _ _ _ h => h) (by rfl) hH ?_
  try simp only [Act.put, List.setIfInBounds_toArray, List.set_cons_zero, List.set_cons_succ]
  refine any_skip 10 20 rfl rfl (by kernel_rfl) (by kernel_rfl) (by kernel_rfl) (fun _ _ _ h => h) (by rfl) hH ?_
  try simp only [Act.put, List.setIfInBounds_toArray, List.set_cons_zero, List.set_cons_succ]
  refine any_take 11 21 ?va11 rfl rfl (by kernel_rfl) (by kernel_rfl) (by kernel_rfl) (fun _ _ _ h => h) (by rfl) ?hya11 hH ?resta11
  case hya11 => ((intro W hSw); go_simp; (try with_reducible rfl))
  try simp only [Act.put, List.setIfInBounds_toArray, List.set_cons_zero, List.set_cons_succ]
  refine any_take 12 22 ?va12 rfl rfl (by kernel_rfl) (by kernel_rfl) (by kernel_rfl) (fun _ _ _ h => h) (by rfl) ?hya12 hH ?resta12
  case hya12 => ((intro W hSw); go_simp; (try with_reducible rfl))
  try simp only [Act.put, List.setIfInBounds_toArray, List.set_cons_zero, List.set_cons_succ]
  refine any_skip 13 23 rfl rfl (by kernel_rfl) (by kernel_rfl) (by kernel_rfl) (fun _ _ _ h => h) (by rfl) hH ?_
  try simp only [Act.put, List.setIfInBounds_toArray, List.set_cons_zero, List.set_cons_succ]
  refine any_skip 14 24 rfl rfl (by kernel_rfl) (by kernel_rfl) (by kernel_rfl) (fun _ _ _ h => h) (by rfl) hH ?_
  try simp only [Act.put, List.setIfInBounds_toArray, List.set_cons_zero, List.set_cons_succ]
  refine any_skip 15 25 rfl rfl (by kernel_rfl) (by kernel_rfl) (by kernel_rfl) (fun _ _ _ h => h) (by rfl) hH ?_
  try simp only [Act.put, List.setIfInBounds_toArray, List.set_cons_zero, List.set_cons_succ]
  refine any_skip 16 26 rfl rfl (by kernel_rfl) (by kernel_rfl) (by kernel_rfl) (fun _ _ _ h => h) (by rfl) hH ?_
  try simp only [Act.put, List.setIfInBounds_toArray, List.set_cons_zero, List.set_cons_succ]
  refine any_skip 17 27 rfl rfl (by kernel_rfl) (by kernel_rfl) (by kernel_rfl) (fun _ _ _ h => h) (by rfl) hH ?_
  try simp only [Act.put, List.setIfInBounds_toArray, List.set_cons_zero, List.set_cons_succ]
  refine any_take 18 28 ?va18 rfl rfl (by kernel_rfl) (by kernel_rfl) (by kernel_rfl) (fun _ _ _ h => h) (by rfl) ?hya18 hH ?resta18
  case hya18 => ((intro W hSw); go_simp; (try with_reducible rfl))
  try simp only [Act.put, List.setIfInBounds_toArray, List.set_cons_zero, List.set_cons_succ]
  refine wpAnyH_done (by kernel_rfl) ?_ _
  refine NoPanic.normal ?_
  have b3 := BB1.out.drew
  clear hH
  go_wp2
  go_ret
  exact ⟨rfl, b3⟩

set_option maxRecDepth 100000 in
set_option maxHeartbeats 4000000 in
theorem rchk_b (e : Entry) (A1 A2 : Option Addr) (c1 c2 : Nat) (w : World) (hV : EntV w e A1 A2 c1 c2) (h1 : okF e = true) (hl : ¬ 1 ≤ e.lsn) :
    Calls Try.prog 36 #[.agg (evs e (.slice A1 e.key.length c1) (.slice A2 e.data.length c2))] w (ChkPost e w) := by
  have hcn : chkN e = 40 := by unfold chkN; rw [if_neg (fun hh => hl ((ok_ref e).1 hh).2.1)]
  unfold ChkPost
  rw [hcn]
  obtain ⟨B1, B2, d1, d2, hKe, hDe, hVp⟩ := plain_V hV
  have cf := fields_any e A1 A2 c1 c2 _ (hV.below ((Below.refl w.heap.size w).alloc (Nat.le_refl _) (.cells (evs e (.slice A1 e.key.length c1) (.slice A2 e.data.length c2)) 26)))
  unfold FldsPost at cf
  rw [h1] at cf
  have CF := Lib.hid cf
  have cpl := fun W => plain_any e A1 A2 c1 c2 W
  unfold PlainPost at cpl
  rw [hKe, hDe] at cpl
  have CPL := Lib.hid cpl
  have csm := fun W (h : EntV W e A1 A2 c1 c2) (h2 : EntV W (plainE e) B1 B2 d1 d2) => same4_any e (plainE e) A1 A2 B1 B2 c1 c2 d1 d2 W h h2
  have CSM := Lib.hid csm
  have HV := Lib.hid hV
  have HVP := Lib.hid hVp
  have bl1 : decide (e.lsn < 1) = true := by first | (rw [decide_eq_true_iff]; omega) | (rw [decide_eq_false_iff_not]; omega)
  have bl2 : decide (((e.lsn : Nat) : Int) < 1) = true := by first | (rw [decide_eq_true_iff]; omega) | (rw [decide_eq_false_iff_not]; omega)
  clear cf cpl csm hV hVp hKe hDe
  go_enter Try.func36, Try.ntmps36
  go_wp2_with fail
  with_reducible refine CF.out.mono ?_
  rintro x w1 ⟨v, rfl, hb1, _⟩
  have L1 := (Lies.made w 26 (evs e (.slice A1 e.key.length c1) (.slice A2 e.data.length c2))).below hb1 (by simp)
  have b1 : Below w.heap.size w w1 := ((Below.refl w.heap.size w).alloc (Nat.le_refl _) _).trans (hb1.mono (by simp))
  have BB1 := Lib.hid b1
  have hc5 : ∀ W, Below w1.drew.heap.size w1.drew W → (W.cell? ⟨w.heap.size, 0, none⟩ = some (.int .i64 e.kind) ∧ W.cell? ⟨w.heap.size, 1, none⟩ = some (.int .u64 (e.lsn : Nat)) ∧ W.cell? ⟨w.heap.size, 2, none⟩ = some (.int .u32 (e.epoch : Nat)) ∧ W.cell? ⟨w.heap.size, 3, none⟩ = some (.int .u32 (e.order : Nat)) ∧ W.cell? ⟨w.heap.size, 4, none⟩ = some (.int .i64 e.step) ∧ W.cell? ⟨w.heap.size, 5, none⟩ = some (.bool e.undo) ∧ W.cell? ⟨w.heap.size, 6, none⟩ = some (.int .i64 e.tri) ∧ W.cell? ⟨w.heap.size, 7, none⟩ = some (.int .i64 e.code) ∧ W.cell? ⟨w.heap.size, 8, none⟩ = some (.int .u64 (e.mark : Nat)) ∧ W.cell? ⟨w.heap.size, 9, none⟩ = some (.slice A1 e.key.length c1) ∧ W.cell? ⟨w.heap.size, 10, none⟩ = some (.slice A2 e.data.length c2)) := fun W hb => (Lies.below (w := w1.drew) L1 hb L1.lt).cellsE
  have HC5 := Lib.hid hc5
  clear hc5 L1 hb1 b1 CF
  go_wp2_with fail
  refine wp_region_noPanic ?_
  refine wp_region_held_drew (S := fun W => W.cell? ⟨w.heap.size, 0, none⟩ = some (.int .i64 e.kind) ∧ W.cell? ⟨w.heap.size, 1, none⟩ = some (.int .u64 (e.lsn : Nat)) ∧ W.cell? ⟨w.heap.size, 2, none⟩ = some (.int .u32 (e.epoch : Nat)) ∧ W.cell? ⟨w.heap.size, 3, none⟩ = some (.int .u32 (e.order : Nat)) ∧ W.cell? ⟨w.heap.size, 4, none⟩ = some (.int .i64 e.step) ∧ W.cell? ⟨w.heap.size, 5, none⟩ = some (.bool e.undo) ∧ W.cell? ⟨w.heap.size, 6, none⟩ = some (.int .i64 e.tri) ∧ W.cell? ⟨w.heap.size, 7, none⟩ = some (.int .i64 e.code) ∧ W.cell? ⟨w.heap.size, 8, none⟩ = some (.int .u64 (e.mark : Nat)) ∧ W.cell? ⟨w.heap.size, 9, none⟩ = some (.slice A1 e.key.length c1) ∧ W.cell? ⟨w.heap.size, 10, none⟩ = some (.slice A2 e.data.length c2)) (by kernel_rfl) (HC5.out _ (Below.refl _ _)) (fun hH => ?_)
  refine any_take 0 10 ?vb0 rfl rfl (by kernel_rfl) (by kernel_rfl) (by kernel_rfl) (fun _ _ _ h => h) (by rfl) ?hyb0 hH ?restb0
  case hyb0 => ((intro W hSw); go_simp; (try with_reducible rfl))
  try simp only [Act.put, List.setIfInBounds_toArray, List.set_cons_zero, List.set_cons_succ]
  refine any_take 1 11 ?vb1 rfl rfl (by kernel_rfl) (by kernel_rfl) (by kernel_rfl) (fun _ _ _ h => h) (by rfl) ?hyb1 hH ?restb1
  case hyb1 => ((intro W hSw); go_simp; (try with_reducible rfl))
  try simp only [Act.put, List.setIfInBounds_toArray, List.set_cons_zero, List.set_cons_succ]
  refine any_take 2 12 ?vb2 rfl rfl (by kernel_rfl) (by kernel_rfl) (by kernel_rfl) (fun _ _ _ h => h) (by rfl) ?hyb2 hH ?restb2
  case hyb2 => ((intro W hSw); go_simp; (try with_reducible rfl))
  try simp only [Act.put, List.setIfInBounds_toArray, List.set_cons_zero, List.set_cons_succ]
  refine any_take 3 13 ?vb3 rfl rfl (by kernel_rfl) (by kernel_rfl) (by kernel_rfl) (fun _ _ _ h => h) (by rfl) ?hyb3 hH ?restb3
  case hyb3 => ((intro W hSw); go_simp; (try with_reducible rfl))
  try simp only [Act.put, List.setIfInBounds_toArray, List.set_cons_zero, List.set_cons_succ]
  refine any_take 4 14 ?vb4 rfl rfl (by kernel_rfl) (by kernel_rfl) (by kernel_rfl) (fun _ _ _ h => h) (by rfl) ?hyb4 hH ?restb4
  case hyb4 => ((intro W hSw); (obtain ⟨g0, g1, g2, g3, g4, g5, g6, g7, g8, g9, g10⟩ := hSw); go_simp; (try with_reducible rfl))
  try simp only [Act.put, List.setIfInBounds_toArray, List.set_cons_zero, List.set_cons_succ]
  refine any_take 5 15 ?vb5 rfl rfl (by kernel_rfl) (by kernel_rfl) (by kernel_rfl) (fun _ _ _ h => h) (by rfl) ?hyb5 hH ?restb5
  case hyb5 => ((intro W hSw); go_simp; (try with_reducible rfl))
  try simp only [Act.put, List.setIfInBounds_toArray, List.set_cons_zero, List.set_cons_succ]
  refine any_take 6 16 ?vb6 rfl rfl (by kernel_rfl) (by kernel_rfl) (by kernel_rfl) (fun _ _ _ h => h) (by rfl) ?hyb6 hH ?restb6
  case hyb6 => ((intro W hSw); go_simp; (try with_reducible rfl))
  try simp only [Act.put, List.setIfInBounds_toArray, List.set_cons_zero, List.set_cons_succ]
  refine any_take 7 17 ?vb7 rfl rfl (by kernel_rfl) (by kernel_rfl) (by kernel_rfl) (fun _ _ _ h => h) (by rfl) ?hyb7 hH ?restb7
  case hyb7 => ((intro W hSw); go_simp; (try with_reducible rfl))
  try simp only [Act.put, List.setIfInBounds_toArray, List.set_cons_zero, List.set_cons_succ]
  refine any_skip 8 18 rfl rfl (by kernel_rfl) (by kernel_rfl) (by kernel_rfl) (fun _ _ _ h => h) (by rfl) hH ?_
  try simp only [Act.put, List.setIfInBounds_toArray, List.set_cons_zero, List.set_cons_succ]
  refine any_skip 9 19 rfl rfl (by kernel_rfl) (by kernel_rfl) (by kernel_rfl) (fun _ _ _ h => h) (by rfl) hH ?_
  try simp only [Act.put, List.setIfInBounds_toArray, List.set_cons_zero, List.set_cons_succ]
  refine any_skip 10 20 rfl rfl (by kernel_rfl) (by kernel_rfl) (by kernel_rfl) (fun _ _ _ h => h) (by rfl) hH ?_
  try simp only [Act.put, List.setIfInBounds_toArray, List.set_cons_zero, List.set_cons_succ]
  refine any_take 11 21 ?vb11 rfl rfl (by kernel_rfl) (by kernel_rfl) (by kernel_rfl) (fun _ _ _ h => h) (by rfl) ?hyb11 hH ?restb11
  case hyb11 => ((intro W hSw); go_simp; (try with_reducible rfl))
  try simp only [Act.put, List.setIfInBounds_toArray, List.set_cons_zero, List.set_cons_succ]
  refine any_take 12 22 ?vb12 rfl rfl (by kernel_rfl) (by kernel_rfl) (by kernel_rfl) (fun _ _ _ h => h) (by rfl) ?hyb12 hH ?restb12
  case hyb12 => ((intro W hSw); go_simp; (try with_reducible rfl))
  try simp only [Act.put, List.setIfInBounds_toArray, List.set_cons_zero, List.set_cons_succ]
  refine any_skip 13 23 rfl rfl (by kernel_rfl) (by kernel_rfl) (by kernel_rfl) (fun _ _ _ h => h) (by rfl) hH ?_
  try simp only [Act.put, List.setIfInBounds_toArray, List.set_cons_zero, List.set_cons_succ]
  refine any_skip 14 24 rfl rfl (by kernel_rfl) (by kernel_rfl) (by kernel_rfl) (fun _ _ _ h => h) (by rfl) hH ?_
  try simp only [Act.put, List.setIfInBounds_toArray, List.set_cons_zero, List.set_cons_succ]
  refine any_skip 15 25 rfl rfl (by kernel_rfl) (by kernel_rfl) (by kernel_rfl) (fun _ _ _ h => h) (by rfl) hH ?_
  try simp only [Act.put, List.setIfInBounds_toArray, List.set_cons_zero, List.set_cons_succ]
  refine any_skip 16 26 rfl rfl (by kernel_rfl) (by kernel_rfl) (by kernel_rfl) (fun _ _ _ h => h) (by rfl) hH ?_
  try simp only [Act.put, List.setIfInBounds_toArray, List.set_cons_zero, List.set_cons_succ]
  refine any_skip 17 27 rfl rfl (by kernel_rfl) (by kernel_rfl) (by kernel_rfl) (fun _ _ _ h => h) (by rfl) hH ?_
  try simp only [Act.put, List.setIfInBounds_toArray, List.set_cons_zero, List.set_cons_succ]
  refine any_take 18 28 ?vb18 rfl rfl (by kernel_rfl) (by kernel_rfl) (by kernel_rfl) (fun _ _ _ h => h) (by rfl) ?hyb18 hH ?restb18
  case hyb18 => ((intro W hSw); go_simp; (try with_reducible rfl))
  try simp only [Act.put, List.setIfInBounds_toArray, List.set_cons_zero, List.set_cons_succ]
  refine wpAnyH_done (by kernel_rfl) ?_ _
  refine NoPanic.normal ?_
  have b3 := BB1.out.drew
  clear hH
  go_wp2
  go_ret
  exact ⟨rfl, b3⟩

set_option maxRecDepth 100000 in
set_option maxHeartbeats 4000000 in
theorem rchk_c (e : Entry) (A1 A2 : Option Addr) (c1 c2 : Nat) (w : World) (hV : EntV w e A1 A2 c1 c2) (h1 : okF e = true) (hl : 1 ≤ e.lsn) (he : ¬ 1 ≤ e.epoch) :
    Calls Try.prog 36 #[.agg (evs e (.slice A1 e.key.length c1) (.slice A2 e.data.length c2))] w (ChkPost e w) := by
  have hcn : chkN e = 40 := by unfold chkN; rw [if_neg (fun hh => he ((ok_ref e).1 hh).2.2.1)]
  unfold ChkPost
  rw [hcn]
  obtain ⟨B1, B2, d1, d2, hKe, hDe, hVp⟩ := plain_V hV
  have cf := fields_any e A1 A2 c1 c2 _ (hV.below ((Below.refl w.heap.size w).alloc (Nat.le_refl _) (.cells (evs e (.slice A1 e.key.length c1) (.slice A2 e.data.length c2)) 26)))
  unfold FldsPost at cf
  rw [h1] at cf
  have CF := Lib.hid cf
  have cpl := fun W => plain_any e A1 A2 c1 c2 W
  unfold PlainPost at cpl
  rw [hKe, hDe] at cpl
  have CPL := Lib.hid cpl
  have csm := fun W (h : EntV W e A1 A2 c1 c2) (h2 : EntV W (plainE e) B1 B2 d1 d2) => same4_any e (plainE e) A1 A2 B1 B2 c1 c2 d1 d2 W h h2
  have CSM := Lib.hid csm
  have HV := Lib.hid hV
  have HVP := Lib.hid hVp
  have bl1 : decide (e.lsn < 1) = false := by first | (rw [decide_eq_true_iff]; omega) | (rw [decide_eq_false_iff_not]; omega)
  have bl2 : decide (((e.lsn : Nat) : Int) < 1) = false := by first | (rw [decide_eq_true_iff]; omega) | (rw [decide_eq_false_iff_not]; omega)
  have be1 : decide (e.epoch < 1) = true := by first | (rw [decide_eq_true_iff]; omega) | (rw [decide_eq_false_iff_not]; omega)
  have be2 : decide (((e.epoch : Nat) : Int) < 1) = true := by first | (rw [decide_eq_true_iff]; omega) | (rw [decide_eq_false_iff_not]; omega)
  clear cf cpl csm hV hVp hKe hDe
  go_enter Try.func36, Try.ntmps36
  go_wp2_with fail
  with_reducible refine CF.out.mono ?_
  rintro x w1 ⟨v, rfl, hb1, _⟩
  have L1 := (Lies.made w 26 (evs e (.slice A1 e.key.length c1) (.slice A2 e.data.length c2))).below hb1 (by simp)
  have b1 : Below w.heap.size w w1 := ((Below.refl w.heap.size w).alloc (Nat.le_refl _) _).trans (hb1.mono (by simp))
  have BB1 := Lib.hid b1
  have hc5 : ∀ W, Below w1.drew.heap.size w1.drew W → (W.cell? ⟨w.heap.size, 0, none⟩ = some (.int .i64 e.kind) ∧ W.cell? ⟨w.heap.size, 1, none⟩ = some (.int .u64 (e.lsn : Nat)) ∧ W.cell? ⟨w.heap.size, 2, none⟩ = some (.int .u32 (e.epoch : Nat)) ∧ W.cell? ⟨w.heap.size, 3, none⟩ = some (.int .u32 (e.order : Nat)) ∧ W.cell? ⟨w.heap.size, 4, none⟩ = some (.int .i64 e.step) ∧ W.cell? ⟨w.heap.size, 5, none⟩ = some (.bool e.undo) ∧ W.cell? ⟨w.heap.size, 6, none⟩ = some (.int .i64 e.tri) ∧ W.cell? ⟨w.heap.size, 7, none⟩ = some (.int .i64 e.code) ∧ W.cell? ⟨w.heap.size, 8, none⟩ = some (.int .u64 (e.mark : Nat)) ∧ W.cell? ⟨w.heap.size, 9, none⟩ = some (.slice A1 e.key.length c1) ∧ W.cell? ⟨w.heap.size, 10, none⟩ = some (.slice A2 e.data.length c2)) := fun W hb => (Lies.below (w := w1.drew) L1 hb L1.lt).cellsE
  have HC5 := Lib.hid hc5
  clear hc5 L1 hb1 b1 CF
  go_wp2_with fail
  refine wp_region_noPanic ?_
  refine wp_region_held_drew (S := fun W => W.cell? ⟨w.heap.size, 0, none⟩ = some (.int .i64 e.kind) ∧ W.cell? ⟨w.heap.size, 1, none⟩ = some (.int .u64 (e.lsn : Nat)) ∧ W.cell? ⟨w.heap.size, 2, none⟩ = some (.int .u32 (e.epoch : Nat)) ∧ W.cell? ⟨w.heap.size, 3, none⟩ = some (.int .u32 (e.order : Nat)) ∧ W.cell? ⟨w.heap.size, 4, none⟩ = some (.int .i64 e.step) ∧ W.cell? ⟨w.heap.size, 5, none⟩ = some (.bool e.undo) ∧ W.cell? ⟨w.heap.size, 6, none⟩ = some (.int .i64 e.tri) ∧ W.cell? ⟨w.heap.size, 7, none⟩ = some (.int .i64 e.code) ∧ W.cell? ⟨w.heap.size, 8, none⟩ = some (.int .u64 (e.mark : Nat)) ∧ W.cell? ⟨w.heap.size, 9, none⟩ = some (.slice A1 e.key.length c1) ∧ W.cell? ⟨w.heap.size, 10, none⟩ = some (.slice A2 e.data.length c2)) (by kernel_rfl) (HC5.out _ (Below.refl _ _)) (fun hH => ?_)
  refine any_take 0 10 ?vc0 rfl rfl (by kernel_rfl) (by kernel_rfl) (by kernel_rfl) (fun _ _ _ h => h) (by rfl) ?hyc0 hH ?restc0
  case hyc0 => ((intro W hSw); go_simp; (try with_reducible rfl))
  try simp only [Act.put, List.setIfInBounds_toArray, List.set_cons_zero, List.set_cons_succ]
  refine any_take 1 11 ?vc1 rfl rfl (by kernel_rfl) (by kernel_rfl) (by kernel_rfl) (fun _ _ _ h => h) (by rfl) ?hyc1 hH ?restc1
  case hyc1 => ((intro W hSw); go_simp; (try with_reducible rfl))
  try simp only [Act.put, List.setIfInBounds_toArray, List.set_cons_zero, List.set_cons_succ]
  refine any_take 2 12 ?vc2 rfl rfl (by kernel_rfl) (by kernel_rfl) (by kernel_rfl) (fun _ _ _ h => h) (by rfl) ?hyc2 hH ?restc2
  case hyc2 => ((intro W hSw); go_simp; (try with_reducible rfl))
  try simp only [Act.put, List.setIfInBounds_toArray, List.set_cons_zero, List.set_cons_succ]
  refine any_take 3 13 ?vc3 rfl rfl (by kernel_rfl) (by kernel_rfl) (by kernel_rfl) (fun _ _ _ h => h) (by rfl) ?hyc3 hH ?restc3
  case hyc3 => ((intro W hSw); go_simp; (try with_reducible rfl))
  try simp only [Act.put, List.setIfInBounds_toArray, List.set_cons_zero, List.set_cons_succ]
  refine any_take 4 14 ?vc4 rfl rfl (by kernel_rfl) (by kernel_rfl) (by kernel_rfl) (fun _ _ _ h => h) (by rfl) ?hyc4 hH ?restc4
  case hyc4 => ((intro W hSw); (obtain ⟨g0, g1, g2, g3, g4, g5, g6, g7, g8, g9, g10⟩ := hSw); go_simp; (try with_reducible rfl))
  try simp only [Act.put, List.setIfInBounds_toArray, List.set_cons_zero, List.set_cons_succ]
  refine any_take 5 15 ?vc5 rfl rfl (by kernel_rfl) (by kernel_rfl) (by kernel_rfl) (fun _ _ _ h => h) (by rfl) ?hyc5 hH ?restc5
  case hyc5 => ((intro W hSw); go_simp; (try with_reducible rfl))
  try simp only [Act.put, List.setIfInBounds_toArray, List.set_cons_zero, List.set_cons_succ]
  refine any_take 6 16 ?vc6 rfl rfl (by kernel_rfl) (by kernel_rfl) (by kernel_rfl) (fun _ _ _ h => h) (by rfl) ?hyc6 hH ?restc6
  case hyc6 => ((intro W hSw); go_simp; (try with_reducible rfl))
  try simp only [Act.put, List.setIfInBounds_toArray, List.set_cons_zero, List.set_cons_succ]
  refine any_take 7 17 ?vc7 rfl rfl (by kernel_rfl) (by kernel_rfl) (by kernel_rfl) (fun _ _ _ h => h) (by rfl) ?hyc7 hH ?restc7
  case hyc7 => ((intro W hSw); go_simp; (try with_reducible rfl))
  try simp only [Act.put, List.setIfInBounds_toArray, List.set_cons_zero, List.set_cons_succ]
  refine any_take 8 18 ?vc8 rfl rfl (by kernel_rfl) (by kernel_rfl) (by kernel_rfl) (fun _ _ _ h => h) (by rfl) ?hyc8 hH ?restc8
  case hyc8 => ((intro W hSw); go_simp; (try with_reducible rfl))
  try simp only [Act.put, List.setIfInBounds_toArray, List.set_cons_zero, List.set_cons_succ]
  refine any_take 9 19 ?vc9 rfl rfl (by kernel_rfl) (by kernel_rfl) (by kernel_rfl) (fun _ _ _ h => h) (by rfl) ?hyc9 hH ?restc9
  case hyc9 => ((intro W hSw); (obtain ⟨g0, g1, g2, g3, g4, g5, g6, g7, g8, g9, g10⟩ := hSw); go_simp; (try with_reducible rfl))
  try simp only [Act.put, List.setIfInBounds_toArray, List.set_cons_zero, List.set_cons_succ]
  refine any_take 10 20 ?vc10 rfl rfl (by kernel_rfl) (by kernel_rfl) (by kernel_rfl) (fun _ _ _ h => h) (by rfl) ?hyc10 hH ?restc10
  case hyc10 => ((intro W hSw); go_simp; (try with_reducible rfl))
  try simp only [Act.put, List.setIfInBounds_toArray, List.set_cons_zero, List.set_cons_succ]
  refine any_take 11 21 ?vc11 rfl rfl (by kernel_rfl) (by kernel_rfl) (by kernel_rfl) (fun _ _ _ h => h) (by rfl) ?hyc11 hH ?restc11
  case hyc11 => ((intro W hSw); go_simp; (try with_reducible rfl))
  try simp only [Act.put, List.setIfInBounds_toArray, List.set_cons_zero, List.set_cons_succ]
  refine any_take 12 22 ?vc12 rfl rfl (by kernel_rfl) (by kernel_rfl) (by kernel_rfl) (fun _ _ _ h => h) (by rfl) ?hyc12 hH ?restc12
  case hyc12 => ((intro W hSw); go_simp; (try with_reducible rfl))
  try simp only [Act.put, List.setIfInBounds_toArray, List.set_cons_zero, List.set_cons_succ]
  refine any_skip 13 23 rfl rfl (by kernel_rfl) (by kernel_rfl) (by kernel_rfl) (fun _ _ _ h => h) (by rfl) hH ?_
  try simp only [Act.put, List.setIfInBounds_toArray, List.set_cons_zero, List.set_cons_succ]
  refine any_skip 14 24 rfl rfl (by kernel_rfl) (by kernel_rfl) (by kernel_rfl) (fun _ _ _ h => h) (by rfl) hH ?_
  try simp only [Act.put, List.setIfInBounds_toArray, List.set_cons_zero, List.set_cons_succ]
  refine any_skip 15 25 rfl rfl (by kernel_rfl) (by kernel_rfl) (by kernel_rfl) (fun _ _ _ h => h) (by rfl) hH ?_
  try simp only [Act.put, List.setIfInBounds_toArray, List.set_cons_zero, List.set_cons_succ]
  refine any_skip 16 26 rfl rfl (by kernel_rfl) (by kernel_rfl) (by kernel_rfl) (fun _ _ _ h => h) (by rfl) hH ?_
  try simp only [Act.put, List.setIfInBounds_toArray, List.set_cons_zero, List.set_cons_succ]
  refine any_skip 17 27 rfl rfl (by kernel_rfl) (by kernel_rfl) (by kernel_rfl) (fun _ _ _ h => h) (by rfl) hH ?_
  try simp only [Act.put, List.setIfInBounds_toArray, List.set_cons_zero, List.set_cons_succ]
  refine any_take 18 28 ?vc18 rfl rfl (by kernel_rfl) (by kernel_rfl) (by kernel_rfl) (fun _ _ _ h => h) (by rfl) ?hyc18 hH ?restc18
  case hyc18 => ((intro W hSw); go_simp; (try with_reducible rfl))
  try simp only [Act.put, List.setIfInBounds_toArray, List.set_cons_zero, List.set_cons_succ]
  refine wpAnyH_done (by kernel_rfl) ?_ _
  refine NoPanic.normal ?_
  have b3 := BB1.out.drew
  clear hH
  go_wp2
  go_ret
  exact ⟨rfl, b3⟩

set_option maxRecDepth 100000 in
set_option maxHeartbeats 4000000 in
theorem rchk_d (e : Entry) (A1 A2 : Option Addr) (c1 c2 : Nat) (w : World) (hV : EntV w e A1 A2 c1 c2) (h1 : okF e = true) (hl : 1 ≤ e.lsn) (he : 1 ≤ e.epoch) (hs : ¬ e = plainE e) :
    Calls Try.prog 36 #[.agg (evs e (.slice A1 e.key.length c1) (.slice A2 e.data.length c2))] w (ChkPost e w) := by
  have hcn : chkN e = 40 := by unfold chkN; rw [if_neg (fun hh => hs ((ok_ref e).1 hh).2.2.2)]
  have hsm : sameE e (plainE e) = false := by cases h : sameE e (plainE e); rfl; exact absurd ((sameE_iff _ _).1 h) hs
  unfold ChkPost
  rw [hcn]
  obtain ⟨B1, B2, d1, d2, hKe, hDe, hVp⟩ := plain_V hV
  have cf := fields_any e A1 A2 c1 c2 _ (hV.below ((Below.refl w.heap.size w).alloc (Nat.le_refl _) (.cells (evs e (.slice A1 e.key.length c1) (.slice A2 e.data.length c2)) 26)))
  unfold FldsPost at cf
  rw [h1] at cf
  have CF := Lib.hid cf
  have cpl := fun W => plain_any e A1 A2 c1 c2 W
  unfold PlainPost at cpl
  rw [hKe, hDe] at cpl
  have CPL := Lib.hid cpl
  have csm := fun W (h : EntV W e A1 A2 c1 c2) (h2 : EntV W (plainE e) B1 B2 d1 d2) => same4_any e (plainE e) A1 A2 B1 B2 c1 c2 d1 d2 W h h2
  rw [hsm] at csm
  have CSM := Lib.hid csm
  have HV := Lib.hid hV
  have HVP := Lib.hid hVp
  have bl1 : decide (e.lsn < 1) = false := by first | (rw [decide_eq_true_iff]; omega) | (rw [decide_eq_false_iff_not]; omega)
  have bl2 : decide (((e.lsn : Nat) : Int) < 1) = false := by first | (rw [decide_eq_true_iff]; omega) | (rw [decide_eq_false_iff_not]; omega)
  have be1 : decide (e.epoch < 1) = false := by first | (rw [decide_eq_true_iff]; omega) | (rw [decide_eq_false_iff_not]; omega)
  have be2 : decide (((e.epoch : Nat) : Int) < 1) = false := by first | (rw [decide_eq_true_iff]; omega) | (rw [decide_eq_false_iff_not]; omega)
  clear cf cpl csm hV hVp hKe hDe
  go_enter Try.func36, Try.ntmps36
  go_wp2_with fail
  with_reducible refine CF.out.mono ?_
  rintro x w1 ⟨v, rfl, hb1, _⟩
  have L1 := (Lies.made w 26 (evs e (.slice A1 e.key.length c1) (.slice A2 e.data.length c2))).below hb1 (by simp)
  have b1 : Below w.heap.size w w1 := ((Below.refl w.heap.size w).alloc (Nat.le_refl _) _).trans (hb1.mono (by simp))
  have BB1 := Lib.hid b1
  have hc5 : ∀ W, Below w1.drew.heap.size w1.drew W → (W.cell? ⟨w.heap.size, 0, none⟩ = some (.int .i64 e.kind) ∧ W.cell? ⟨w.heap.size, 1, none⟩ = some (.int .u64 (e.lsn : Nat)) ∧ W.cell? ⟨w.heap.size, 2, none⟩ = some (.int .u32 (e.epoch : Nat)) ∧ W.cell? ⟨w.heap.size, 3, none⟩ = some (.int .u32 (e.order : Nat)) ∧ W.cell? ⟨w.heap.size, 4, none⟩ = some (.int .i64 e.step) ∧ W.cell? ⟨w.heap.size, 5, none⟩ = some (.bool e.undo) ∧ W.cell? ⟨w.heap.size, 6, none⟩ = some (.int .i64 e.tri) ∧ W.cell? ⟨w.heap.size, 7, none⟩ = some (.int .i64 e.code) ∧ W.cell? ⟨w.heap.size, 8, none⟩ = some (.int .u64 (e.mark : Nat)) ∧ W.cell? ⟨w.heap.size, 9, none⟩ = some (.slice A1 e.key.length c1) ∧ W.cell? ⟨w.heap.size, 10, none⟩ = some (.slice A2 e.data.length c2)) := fun W hb => (Lies.below (w := w1.drew) L1 hb L1.lt).cellsE
  have HC5 := Lib.hid hc5
  clear hc5 L1 hb1 b1 CF
  go_wp2_with fail
  refine wp_region_noPanic ?_
  refine wp_region_held_drew (S := fun W => W.cell? ⟨w.heap.size, 0, none⟩ = some (.int .i64 e.kind) ∧ W.cell? ⟨w.heap.size, 1, none⟩ = some (.int .u64 (e.lsn : Nat)) ∧ W.cell? ⟨w.heap.size, 2, none⟩ = some (.int .u32 (e.epoch : Nat)) ∧ W.cell? ⟨w.heap.size, 3, none⟩ = some (.int .u32 (e.order : Nat)) ∧ W.cell? ⟨w.heap.size, 4, none⟩ = some (.int .i64 e.step) ∧ W.cell? ⟨w.heap.size, 5, none⟩ = some (.bool e.undo) ∧ W.cell? ⟨w.heap.size, 6, none⟩ = some (.int .i64 e.tri) ∧ W.cell? ⟨w.heap.size, 7, none⟩ = some (.int .i64 e.code) ∧ W.cell? ⟨w.heap.size, 8, none⟩ = some (.int .u64 (e.mark : Nat)) ∧ W.cell? ⟨w.heap.size, 9, none⟩ = some (.slice A1 e.key.length c1) ∧ W.cell? ⟨w.heap.size, 10, none⟩ = some (.slice A2 e.data.length c2)) (by kernel_rfl) (HC5.out _ (Below.refl _ _)) (fun hH => ?_)
  refine any_take 0 10 ?vd0 rfl rfl (by kernel_rfl) (by kernel_rfl) (by kernel_rfl) (fun _ _ _ h => h) (by rfl) ?hyd0 hH ?restd0
  case hyd0 => ((intro W hSw); go_simp; (try with_reducible rfl))
  try simp only [Act.put, List.setIfInBounds_toArray, List.set_cons_zero, List.set_cons_succ]
  refine any_take 1 11 ?vd1 rfl rfl (by kernel_rfl) (by kernel_rfl) (by kernel_rfl) (fun _ _ _ h => h) (by rfl) ?hyd1 hH ?restd1
  case hyd1 => ((intro W hSw); go_simp; (try with_reducible rfl))
  try simp only [Act.put, List.setIfInBounds_toArray, List.set_cons_zero, List.set_cons_succ]
  refine any_take 2 12 ?vd2 rfl rfl (by kernel_rfl) (by kernel_rfl) (by kernel_rfl) (fun _ _ _ h => h) (by rfl) ?hyd2 hH ?restd2
  case hyd2 => ((intro W hSw); go_simp; (try with_reducible rfl))
  try simp only [Act.put, List.setIfInBounds_toArray, List.set_cons_zero, List.set_cons_succ]
  refine any_take 3 13 ?vd3 rfl rfl (by kernel_rfl) (by kernel_rfl) (by kernel_rfl) (fun _ _ _ h => h) (by rfl) ?hyd3 hH ?restd3
  case hyd3 => ((intro W hSw); go_simp; (try with_reducible rfl))
  try simp only [Act.put, List.setIfInBounds_toArray, List.set_cons_zero, List.set_cons_succ]
  refine any_take 4 14 ?vd4 rfl rfl (by kernel_rfl) (by kernel_rfl) (by kernel_rfl) (fun _ _ _ h => h) (by rfl) ?hyd4 hH ?restd4
  case hyd4 => ((intro W hSw); (obtain ⟨g0, g1, g2, g3, g4, g5, g6, g7, g8, g9, g10⟩ := hSw); go_simp; (try with_reducible rfl))
  try simp only [Act.put, List.setIfInBounds_toArray, List.set_cons_zero, List.set_cons_succ]
  refine any_take 5 15 ?vd5 rfl rfl (by kernel_rfl) (by kernel_rfl) (by kernel_rfl) (fun _ _ _ h => h) (by rfl) ?hyd5 hH ?restd5
  case hyd5 => ((intro W hSw); go_simp; (try with_reducible rfl))
  try simp only [Act.put, List.setIfInBounds_toArray, List.set_cons_zero, List.set_cons_succ]
  refine any_take 6 16 ?vd6 rfl rfl (by kernel_rfl) (by kernel_rfl) (by kernel_rfl) (fun _ _ _ h => h) (by rfl) ?hyd6 hH ?restd6
  case hyd6 => ((intro W hSw); go_simp; (try with_reducible rfl))
  try simp only [Act.put, List.setIfInBounds_toArray, List.set_cons_zero, List.set_cons_succ]
  refine any_take 7 17 ?vd7 rfl rfl (by kernel_rfl) (by kernel_rfl) (by kernel_rfl) (fun _ _ _ h => h) (by rfl) ?hyd7 hH ?restd7
  case hyd7 => ((intro W hSw); go_simp; (try with_reducible rfl))
  try simp only [Act.put, List.setIfInBounds_toArray, List.set_cons_zero, List.set_cons_succ]
  refine any_take 8 18 ?vd8 rfl rfl (by kernel_rfl) (by kernel_rfl) (by kernel_rfl) (fun _ _ _ h => h) (by rfl) ?hyd8 hH ?restd8
  case hyd8 => ((intro W hSw); go_simp; (try with_reducible rfl))
  try simp only [Act.put, List.setIfInBounds_toArray, List.set_cons_zero, List.set_cons_succ]
  refine any_take 9 19 ?vd9 rfl rfl (by kernel_rfl) (by kernel_rfl) (by kernel_rfl) (fun _ _ _ h => h) (by rfl) ?hyd9 hH ?restd9
  case hyd9 => ((intro W hSw); (obtain ⟨g0, g1, g2, g3, g4, g5, g6, g7, g8, g9, g10⟩ := hSw); go_simp; (try with_reducible rfl))
  try simp only [Act.put, List.setIfInBounds_toArray, List.set_cons_zero, List.set_cons_succ]
  refine any_take 10 20 ?vd10 rfl rfl (by kernel_rfl) (by kernel_rfl) (by kernel_rfl) (fun _ _ _ h => h) (by rfl) ?hyd10 hH ?restd10
  case hyd10 => ((intro W hSw); go_simp; (try with_reducible rfl))
  try simp only [Act.put, List.setIfInBounds_toArray, List.set_cons_zero, List.set_cons_succ]
  refine any_take 11 21 ?vd11 rfl rfl (by kernel_rfl) (by kernel_rfl) (by kernel_rfl) (fun _ _ _ h => h) (by rfl) ?hyd11 hH ?restd11
  case hyd11 => ((intro W hSw); go_simp; (try with_reducible rfl))
  try simp only [Act.put, List.setIfInBounds_toArray, List.set_cons_zero, List.set_cons_succ]
  refine any_take 12 22 ?vd12 rfl rfl (by kernel_rfl) (by kernel_rfl) (by kernel_rfl) (fun _ _ _ h => h) (by rfl) ?hyd12 hH ?restd12
  case hyd12 => ((intro W hSw); go_simp; (try with_reducible rfl))
  try simp only [Act.put, List.setIfInBounds_toArray, List.set_cons_zero, List.set_cons_succ]
  refine any_take 13 23 ?vd13 rfl rfl (by kernel_rfl) (by kernel_rfl) (by kernel_rfl) (fun _ _ _ h => h) (by rfl) ?hyd13 hH ?restd13
  case hyd13 => ((intro W hSw); (obtain ⟨g0, g1, g2, g3, g4, g5, g6, g7, g8, g9, g10⟩ := hSw); go_simp; (try with_reducible rfl))
  try simp only [Act.put, List.setIfInBounds_toArray, List.set_cons_zero, List.set_cons_succ]
  refine any_take 14 24 ?vd14 rfl rfl (by kernel_rfl) (by kernel_rfl) (by kernel_rfl) (fun _ _ _ h => h) (by rfl) ?hyd14 hH ?restd14
  case hyd14 => ((intro W hSw); (obtain ⟨g0, g1, g2, g3, g4, g5, g6, g7, g8, g9, g10⟩ := hSw); go_simp; (try with_reducible rfl))
  try simp only [Act.put, List.setIfInBounds_toArray, List.set_cons_zero, List.set_cons_succ]
  refine wpAnyH_ready (rs := [15]) (by kernel_rfl) (by simp) ?_
  refine AllReadyH.cons rfl (fun K hK => ?_) AllReadyH.nil
  go_simp
  go_at_call 58
  with_reducible refine (CPL.out _).mono ?_
  rintro x w2 ⟨rfl, hb2⟩
  dsimp only
  refine hK.out _ _ (HC5.out _ hb2) (fun hH2 => ?_)
  clear hK K
  try simp only [Act.put, List.setIfInBounds_toArray, List.set_cons_zero, List.set_cons_succ]
  refine wpAnyH_ready (rs := [16]) (by kernel_rfl) (by simp) ?_
  refine AllReadyH.cons rfl (fun K hK => ?_) AllReadyH.nil
  go_simp
  go_at_call 23
  have csm := CSM.out w2 ((HV.out.below BB1.out.drew).below hb2) ((HVP.out.below BB1.out.drew).below hb2)
  with_reducible refine csm.mono ?_
  clear csm
  rintro x w3 ⟨rfl, hb3⟩
  dsimp only
  refine hK.out _ _ (HC5.out _ (hb2.trans (hb3.mono hb2.size))) (fun hH3 => ?_)
  clear hK K
  try simp only [Act.put, List.setIfInBounds_toArray, List.set_cons_zero, List.set_cons_succ]
  refine any_take 17 27 ?vd17 rfl rfl (by kernel_rfl) (by kernel_rfl) (by kernel_rfl) (fun _ _ _ h => h) (by rfl) ?hyd17 hH3 ?restd17
  case hyd17 => ((intro W hSw); go_simp; (try with_reducible rfl))
  try simp only [Act.put, List.setIfInBounds_toArray, List.set_cons_zero, List.set_cons_succ]
  refine any_take 18 28 ?vd18 rfl rfl (by kernel_rfl) (by kernel_rfl) (by kernel_rfl) (fun _ _ _ h => h) (by rfl) ?hyd18 hH3 ?restd18
  case hyd18 => ((intro W hSw); go_simp; (try with_reducible rfl))
  try simp only [Act.put, List.setIfInBounds_toArray, List.set_cons_zero, List.set_cons_succ]
  refine wpAnyH_done (by kernel_rfl) ?_ _
  refine NoPanic.normal ?_
  have b3 := BB1.out.drew.trans ((hb2.trans (hb3.mono hb2.size)).mono BB1.out.size)
  clear hH hH2 hH3 hb2 hb3
  go_wp2
  go_ret
  exact ⟨rfl, b3⟩

set_option maxRecDepth 100000 in
set_option maxHeartbeats 4000000 in
theorem rchk_e (e : Entry) (A1 A2 : Option Addr) (c1 c2 : Nat) (w : World) (hV : EntV w e A1 A2 c1 c2) (h1 : okF e = true) (hl : 1 ≤ e.lsn) (he : 1 ≤ e.epoch) (hs : e = plainE e) :
    Calls Try.prog 36 #[.agg (evs e (.slice A1 e.key.length c1) (.slice A2 e.data.length c2))] w (ChkPost e w) := by
  have hcn : chkN e = 0 := by unfold chkN; rw [if_pos ((ok_ref e).2 ⟨h1, hl, he, hs⟩)]
  have hsm : sameE e (plainE e) = true := (sameE_iff _ _).2 hs
  clear hs
  unfold ChkPost
  rw [hcn]
  obtain ⟨B1, B2, d1, d2, hKe, hDe, hVp⟩ := plain_V hV
  have cf := fields_any e A1 A2 c1 c2 _ (hV.below ((Below.refl w.heap.size w).alloc (Nat.le_refl _) (.cells (evs e (.slice A1 e.key.length c1) (.slice A2 e.data.length c2)) 26)))
  unfold FldsPost at cf
  rw [h1] at cf
  have CF := Lib.hid cf
  have cpl := fun W => plain_any e A1 A2 c1 c2 W
  unfold PlainPost at cpl
  rw [hKe, hDe] at cpl
  have CPL := Lib.hid cpl
  have csm := fun W (h : EntV W e A1 A2 c1 c2) (h2 : EntV W (plainE e) B1 B2 d1 d2) => same4_any e (plainE e) A1 A2 B1 B2 c1 c2 d1 d2 W h h2
  rw [hsm] at csm
  have CSM := Lib.hid csm
  have HV := Lib.hid hV
  have HVP := Lib.hid hVp
  have bl1 : decide (e.lsn < 1) = false := by first | (rw [decide_eq_true_iff]; omega) | (rw [decide_eq_false_iff_not]; omega)
  have bl2 : decide (((e.lsn : Nat) : Int) < 1) = false := by first | (rw [decide_eq_true_iff]; omega) | (rw [decide_eq_false_iff_not]; omega)
  have be1 : decide (e.epoch < 1) = false := by first | (rw [decide_eq_true_iff]; omega) | (rw [decide_eq_false_iff_not]; omega)
  have be2 : decide (((e.epoch : Nat) : Int) < 1) = false := by first | (rw [decide_eq_true_iff]; omega) | (rw [decide_eq_false_iff_not]; omega)
  clear cf cpl csm hV hVp hKe hDe
  go_enter Try.func36, Try.ntmps36
  go_wp2_with fail
  with_reducible refine CF.out.mono ?_
  rintro x w1 ⟨v, rfl, hb1, _⟩
  have L1 := (Lies.made w 26 (evs e (.slice A1 e.key.length c1) (.slice A2 e.data.length c2))).below hb1 (by simp)
  have b1 : Below w.heap.size w w1 := ((Below.refl w.heap.size w).alloc (Nat.le_refl _) _).trans (hb1.mono (by simp))
  have BB1 := Lib.hid b1
  have hc5 : ∀ W, Below w1.drew.heap.size w1.drew W → (W.cell? ⟨w.heap.size, 0, none⟩ = some (.int .i64 e.kind) ∧ W.cell? ⟨w.heap.size, 1, none⟩ = some (.int .u64 (e.lsn : Nat)) ∧ W.cell? ⟨w.heap.size, 2, none⟩ = some (.int .u32 (e.epoch : Nat)) ∧ W.cell? ⟨w.heap.size, 3, none⟩ = some (.int .u32 (e.order : Nat)) ∧ W.cell? ⟨w.heap.size, 4, none⟩ = some (.int .i64 e.step) ∧ W.cell? ⟨w.heap.size, 5, none⟩ = some (.bool e.undo) ∧ W.cell? ⟨w.heap.size, 6, none⟩ = some (.int .i64 e.tri) ∧ W.cell? ⟨w.heap.size, 7, none⟩ = some (.int .i64 e.code) ∧ W.cell? ⟨w.heap.size, 8, none⟩ = some (.int .u64 (e.mark : Nat)) ∧ W.cell? ⟨w.heap.size, 9, none⟩ = some (.slice A1 e.key.length c1) ∧ W.cell? ⟨w.heap.size, 10, none⟩ = some (.slice A2 e.data.length c2)) := fun W hb => (Lies.below (w := w1.drew) L1 hb L1.lt).cellsE
  have HC5 := Lib.hid hc5
  clear hc5 L1 hb1 b1 CF
  go_wp2_with fail
  refine wp_region_noPanic ?_
  refine wp_region_held_drew (S := fun W => W.cell? ⟨w.heap.size, 0, none⟩ = some (.int .i64 e.kind) ∧ W.cell? ⟨w.heap.size, 1, none⟩ = some (.int .u64 (e.lsn : Nat)) ∧ W.cell? ⟨w.heap.size, 2, none⟩ = some (.int .u32 (e.epoch : Nat)) ∧ W.cell? ⟨w.heap.size, 3, none⟩ = some (.int .u32 (e.order : Nat)) ∧ W.cell? ⟨w.heap.size, 4, none⟩ = some (.int .i64 e.step) ∧ W.cell? ⟨w.heap.size, 5, none⟩ = some (.bool e.undo) ∧ W.cell? ⟨w.heap.size, 6, none⟩ = some (.int .i64 e.tri) ∧ W.cell? ⟨w.heap.size, 7, none⟩ = some (.int .i64 e.code) ∧ W.cell? ⟨w.heap.size, 8, none⟩ = some (.int .u64 (e.mark : Nat)) ∧ W.cell? ⟨w.heap.size, 9, none⟩ = some (.slice A1 e.key.length c1) ∧ W.cell? ⟨w.heap.size, 10, none⟩ = some (.slice A2 e.data.length c2)) (by kernel_rfl) (HC5.out _ (Below.refl _ _)) (fun hH => ?_)
  refine any_take 0 10 ?ve0 rfl rfl (by kernel_rfl) (by kernel_rfl) (by kernel_rfl) (fun _ _ _ h => h) (by rfl) ?hye0 hH ?reste0
  case hye0 => ((intro W hSw); go_simp; (try with_reducible rfl))
  try simp only [Act.put, List.setIfInBounds_toArray, List.set_cons_zero, List.set_cons_succ]
  refine any_take 1 11 ?ve1 rfl rfl (by kernel_rfl) (by kernel_rfl) (by kernel_rfl) (fun _ _ _ h => h) (by rfl) ?hye1 hH ?reste1
  case hye1 => ((intro W hSw); go_simp; (try with_reducible rfl))
  try simp only [Act.put, List.setIfInBounds_toArray, List.set_cons_zero, List.set_cons_succ]
  refine any_take 2 12 ?ve2 rfl rfl (by kernel_rfl) (by kernel_rfl) (by kernel_rfl) (fun _ _ _ h => h) (by rfl) ?hye2 hH ?reste2
  case hye2 => ((intro W hSw); go_simp; (try with_reducible rfl))
  try simp only [Act.put, List.setIfInBounds_toArray, List.set_cons_zero, List.set_cons_succ]
  refine any_take 3 13 ?ve3 rfl rfl (by kernel_rfl) (by kernel_rfl) (by kernel_rfl) (fun _ _ _ h => h) (by rfl) ?hye3 hH ?reste3
  case hye3 => ((intro W hSw); go_simp; (try with_reducible rfl))
  try simp only [Act.put, List.setIfInBounds_toArray, List.set_cons_zero, List.set_cons_succ]
  refine any_take 4 14 ?ve4 rfl rfl (by kernel_rfl) (by kernel_rfl) (by kernel_rfl) (fun _ _ _ h => h) (by rfl) ?hye4 hH ?reste4
  case hye4 => ((intro W hSw); (obtain ⟨g0, g1, g2, g3, g4, g5, g6, g7, g8, g9, g10⟩ := hSw); go_simp; (try with_reducible rfl))
  try simp only [Act.put, List.setIfInBounds_toArray, List.set_cons_zero, List.set_cons_succ]
  refine any_take 5 15 ?ve5 rfl rfl (by kernel_rfl) (by kernel_rfl) (by kernel_rfl) (fun _ _ _ h => h) (by rfl) ?hye5 hH ?reste5
  case hye5 => ((intro W hSw); go_simp; (try with_reducible rfl))
  try simp only [Act.put, List.setIfInBounds_toArray, List.set_cons_zero, List.set_cons_succ]
  refine any_take 6 16 ?ve6 rfl rfl (by kernel_rfl) (by kernel_rfl) (by kernel_rfl) (fun _ _ _ h => h) (by rfl) ?hye6 hH ?reste6
  case hye6 => ((intro W hSw); go_simp; (try with_reducible rfl))
  try simp only [Act.put, List.setIfInBounds_toArray, List.set_cons_zero, List.set_cons_succ]
  refine any_take 7 17 ?ve7 rfl rfl (by kernel_rfl) (by kernel_rfl) (by kernel_rfl) (fun _ _ _ h => h) (by rfl) ?hye7 hH ?reste7
  case hye7 => ((intro W hSw); go_simp; (try with_reducible rfl))
  try simp only [Act.put, List.setIfInBounds_toArray, List.set_cons_zero, List.set_cons_succ]
  refine any_take 8 18 ?ve8 rfl rfl (by kernel_rfl) (by kernel_rfl) (by kernel_rfl) (fun _ _ _ h => h) (by rfl) ?hye8 hH ?reste8
  case hye8 => ((intro W hSw); go_simp; (try with_reducible rfl))
  try simp only [Act.put, List.setIfInBounds_toArray, List.set_cons_zero, List.set_cons_succ]
  refine any_take 9 19 ?ve9 rfl rfl (by kernel_rfl) (by kernel_rfl) (by kernel_rfl) (fun _ _ _ h => h) (by rfl) ?hye9 hH ?reste9
  case hye9 => ((intro W hSw); (obtain ⟨g0, g1, g2, g3, g4, g5, g6, g7, g8, g9, g10⟩ := hSw); go_simp; (try with_reducible rfl))
  try simp only [Act.put, List.setIfInBounds_toArray, List.set_cons_zero, List.set_cons_succ]
  refine any_take 10 20 ?ve10 rfl rfl (by kernel_rfl) (by kernel_rfl) (by kernel_rfl) (fun _ _ _ h => h) (by rfl) ?hye10 hH ?reste10
  case hye10 => ((intro W hSw); go_simp; (try with_reducible rfl))
  try simp only [Act.put, List.setIfInBounds_toArray, List.set_cons_zero, List.set_cons_succ]
  refine any_take 11 21 ?ve11 rfl rfl (by kernel_rfl) (by kernel_rfl) (by kernel_rfl) (fun _ _ _ h => h) (by rfl) ?hye11 hH ?reste11
  case hye11 => ((intro W hSw); go_simp; (try with_reducible rfl))
  try simp only [Act.put, List.setIfInBounds_toArray, List.set_cons_zero, List.set_cons_succ]
  refine any_take 12 22 ?ve12 rfl rfl (by kernel_rfl) (by kernel_rfl) (by kernel_rfl) (fun _ _ _ h => h) (by rfl) ?hye12 hH ?reste12
  case hye12 => ((intro W hSw); go_simp; (try with_reducible rfl))
  try simp only [Act.put, List.setIfInBounds_toArray, List.set_cons_zero, List.set_cons_succ]
  refine any_take 13 23 ?ve13 rfl rfl (by kernel_rfl) (by kernel_rfl) (by kernel_rfl) (fun _ _ _ h => h) (by rfl) ?hye13 hH ?reste13
  case hye13 => ((intro W hSw); (obtain ⟨g0, g1, g2, g3, g4, g5, g6, g7, g8, g9, g10⟩ := hSw); go_simp; (try with_reducible rfl))
  try simp only [Act.put, List.setIfInBounds_toArray, List.set_cons_zero, List.set_cons_succ]
  refine any_take 14 24 ?ve14 rfl rfl (by kernel_rfl) (by kernel_rfl) (by kernel_rfl) (fun _ _ _ h => h) (by rfl) ?hye14 hH ?reste14
  case hye14 => ((intro W hSw); (obtain ⟨g0, g1, g2, g3, g4, g5, g6, g7, g8, g9, g10⟩ := hSw); go_simp; (try with_reducible rfl))
  try simp only [Act.put, List.setIfInBounds_toArray, List.set_cons_zero, List.set_cons_succ]
  refine wpAnyH_ready (rs := [15]) (by kernel_rfl) (by simp) ?_
  refine AllReadyH.cons rfl (fun K hK => ?_) AllReadyH.nil
  go_simp
  go_at_call 58
  with_reducible refine (CPL.out _).mono ?_
  rintro x w2 ⟨rfl, hb2⟩
  dsimp only
  refine hK.out _ _ (HC5.out _ hb2) (fun hH2 => ?_)
  clear hK K
  try simp only [Act.put, List.setIfInBounds_toArray, List.set_cons_zero, List.set_cons_succ]
  refine wpAnyH_ready (rs := [16]) (by kernel_rfl) (by simp) ?_
  refine AllReadyH.cons rfl (fun K hK => ?_) AllReadyH.nil
  go_simp
  go_at_call 23
  have csm := CSM.out w2 ((HV.out.below BB1.out.drew).below hb2) ((HVP.out.below BB1.out.drew).below hb2)
  with_reducible refine csm.mono ?_
  clear csm
  rintro x w3 ⟨rfl, hb3⟩
  dsimp only
  refine hK.out _ _ (HC5.out _ (hb2.trans (hb3.mono hb2.size))) (fun hH3 => ?_)
  clear hK K
  try simp only [Act.put, List.setIfInBounds_toArray, List.set_cons_zero, List.set_cons_succ]
  refine any_take 17 27 ?ve17 rfl rfl (by kernel_rfl) (by kernel_rfl) (by kernel_rfl) (fun _ _ _ h => h) (by rfl) ?hye17 hH3 ?reste17
  case hye17 => ((intro W hSw); go_simp; (try with_reducible rfl))
  try simp only [Act.put, List.setIfInBounds_toArray, List.set_cons_zero, List.set_cons_succ]
  refine any_take 18 28 ?ve18 rfl rfl (by kernel_rfl) (by kernel_rfl) (by kernel_rfl) (fun _ _ _ h => h) (by rfl) ?hye18 hH3 ?reste18
  case hye18 => ((intro W hSw); go_simp; (try with_reducible rfl))
  try simp only [Act.put, List.setIfInBounds_toArray, List.set_cons_zero, List.set_cons_succ]
  refine wpAnyH_done (by kernel_rfl) ?_ _
  refine NoPanic.normal ?_
  have b3 := BB1.out.drew.trans ((hb2.trans (hb3.mono hb2.size)).mono BB1.out.size)
  clear hH hH2 hH3 hb2 hb3
  go_wp2
  go_ret
  exact ⟨rfl, b3⟩

theorem refCheck_any (e : Entry) (A1 A2 : Option Addr) (c1 c2 : Nat) (w : World) (hV : EntV w e A1 A2 c1 c2) :
    Calls Try.prog 36 #[.agg (evs e (.slice A1 e.key.length c1) (.slice A2 e.data.length c2))] w (ChkPost e w) := by
  by_cases h1 : okF e = true
  · by_cases hl : 1 ≤ e.lsn
    · by_cases he : 1 ≤ e.epoch
      · by_cases hs : e = plainE e
        · exact rchk_e e A1 A2 c1 c2 w hV h1 hl he hs
        · exact rchk_d e A1 A2 c1 c2 w hV h1 hl he hs
      · exact rchk_c e A1 A2 c1 c2 w hV h1 hl he
    · exact rchk_b e A1 A2 c1 c2 w hV h1 hl
  · exact rchk_a e A1 A2 c1 c2 w hV (by simpa using h1)

end Go.Proofs.Ytccpmalefdnhdaa
