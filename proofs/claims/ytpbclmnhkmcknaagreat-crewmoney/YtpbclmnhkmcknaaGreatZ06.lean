/-
  Texts of one proof, in their order: FeInsert, FeInsertK, FeRegLaw, FeChk.
-/
import Derived.Shelf.Spec.SlicesInsertGrow
import Derived.Deep.RegionHeld3
import Derived.Test.YtpbclmnhkmcknaaGreatZ05
namespace Go.Proofs.YtpbclmnhkmcknaaGreat.Fe
open Go.RowKit Go.Lib
set_option maxRecDepth 100000
set_option linter.unusedVariables false
set_option linter.unusedSimpArgs false

theorem info34 : (Tryz.prog.info? 130).map (·.size) = some 6 := by kernel_rfl
theorem run_copy6 (w : World) (ty : TypeId) (b o dLen dCap : Nat) (a : Addr) (sLen sCap : Nat) (cs : List Value)
    (hn : cs.length = Nat.min sLen dLen * 6)
    (hsrc : ∀ j v, cs[j]? = some v → w.cell? (a.add j) = some v) (hc : ∀ j, j < cs.length → (w.cell? ⟨b, o + j, none⟩).isSome = true) (hf : ∀ j, j < cs.length → w.frozen? ⟨b, o + j, none⟩ = false) (h1 : ∀ v ∈ cs, v.oneCell' = true) :
    (Builtin.copy_ #[62, 62] ty #[.slice (some ⟨b, o, none⟩) dLen dCap, .slice (some a) sLen sCap]).run Tryz.prog w = .ok (goInt (Nat.min sLen dLen)) (w.setCells b o cs) := by
  have hl := run_loadCells_list (P := Tryz.prog) w a cs hsrc
  have hst := run_storeCells_cells (P := Tryz.prog) b o cs 0 w (by simpa using hc) (by simpa using hf) h1
  have hs := info34
  cases hq : Tryz.prog.info? 130 with
  | none => simp [hq] at hs
  | some i =>
    have hi : i.size = 6 := by simpa [hq] using hs
    simp [Builtin.copy_, run_underlying Tryz.underlying62, Builtin.lenOf, Builtin.firstCells, sizeOf, typeInfo, hq, hi, ← hn, hl, hst]
theorem size34 (w : World) : (Go.sizeOf 130).run Tryz.prog w = .ok 6 w := by
  have hs := info34
  cases hq : Tryz.prog.info? 130 with
  | none => simp [hq] at hs
  | some i =>
    have hi : i.size = 6 := by simpa [hq] using hs
    simp [Go.sizeOf, typeInfo, hq, hi]
theorem mixed : Tryz.prog.follows .mixedOrders = true := by kernel_rfl
set_option maxHeartbeats 4000000 in
theorem insert_shift (b n c i vb : Nat) (cs vs : List Value) (w : World) (hi : i < n) (hroom : n + 1 ≤ c) (hc63 : c ≤ 9223372036854775807) (hvb : vb ≠ b)
    (hcl : cs.length = n * 6) (hvl : vs.length = 6)
    (hcs : ∀ j v, cs[j]? = some v → w.cell? ⟨b, j, none⟩ = some v) (hsp : ∀ j, j < (n + 1) * 6 → (w.cell? ⟨b, j, none⟩).isSome = true) (hfz : ∀ j, w.frozen? ⟨b, j, none⟩ = false)
    (hvs : ∀ j v, vs[j]? = some v → w.cell? ⟨vb, j, none⟩ = some v) (h1c : ∀ v ∈ cs, v.oneCell' = true) (h1v : ∀ v ∈ vs, v.oneCell' = true)
    (tA tB : TypeId) (kA kB : Nat) (hsa : w.shape? vb = some (tA, kA)) (hsb : w.shape? b = some (tB, kB)) (hkB : kB ≠ 0) (hfa : w.frozen? ⟨vb, 0, none⟩ = false) (hfe : w.frozen? ⟨vb, kA, none⟩ = false) :
    Calls Tryz.prog 104 #[.slice (some ⟨b, 0, none⟩) n c, .int .i64 (i : Int), .slice (some ⟨vb, 0, none⟩) 1 1] w fun e w' =>
      e = .returned (.slice (some ⟨b, 0, none⟩) (n + 1) c) ∧ w' = (w.drew.setCells b ((i + 1) * 6) (cs.drop (i * 6))).setCells b (i * 6) vs := by
  have mixed := mixed
  have hz2 : ((i : Int) == (n : Int)) = false := by simp; omega
  have hz3 : ¬ ((i : Int) = (n : Int)) := by omega
  have hov : ∀ lb cb, (callFunc 135 #[.slice (some ⟨vb, 0, none⟩) 1 1, .slice (some ⟨b, (i + 1) * 6, none⟩) lb cb]).run Tryz.prog w = .ok (.value (.bool false)) w := fun lb cb => by
    rw [run_callFunc_extern Tryz.func135 (by kernel_rfl) (by kernel_rfl) (by kernel_rfl) (e := Extern.SlicesOverlaps.overlaps #[62, 62] #[4]) (by kernel_rfl),
      Lib.run_overlaps_apart w 62 4 130 Tryz.underlying62 6 size34 ⟨vb, 0, none⟩ ⟨b, (i + 1) * 6, none⟩ 1 1 lb cb hvb tA tB kA kB hsa hsb hkB hfa hfe]
    rfl
  have hdl : (cs.drop (i * 6)).length = (n - i) * 6 := by rw [List.length_drop, hcl]; omega
  have hw1 : IntKind.i64.wrap ((i : Int) + 1) = (i : Int) + 1 := by rw [IntKind.wrap_i64]; omega
  have hw2 : IntKind.i64.wrap ((n : Int) + 1) = (n : Int) + 1 := by rw [IntKind.wrap_i64]; omega
  have hb1 : (0 : Int) ≤ (i : Int) + 1 := by omega
  have hin : i ≤ n := by omega
  have htn : ((i : Int) + 1).toNat = i + 1 := by omega
  have hb2 : ¬ (c = i + 1) := by omega
  have hb3 : (i : Int) ≤ (n : Int) + 1 := by omega
  have hb4 : ¬ (c = i) := by omega
  have hb5 : ¬ ((c : Int) < (n : Int) + 1) := by omega
  have hcp1 : ∀ ty dc sc, (Builtin.copy_ #[62, 62] ty #[.slice (some ⟨b, (i + 1) * 6, none⟩) (n - i) dc, .slice (some ⟨b, i * 6, none⟩) (n + 1 - i) sc]).run Tryz.prog w.drew = .ok (goInt (Nat.min (n + 1 - i) (n - i))) (w.drew.setCells b ((i + 1) * 6) (cs.drop (i * 6))) := fun ty dc sc =>
    run_copy6 w.drew ty b ((i + 1) * 6) (n - i) dc ⟨b, i * 6, none⟩ (n + 1 - i) sc (cs.drop (i * 6)) (by rw [hdl]; simp only [Nat.min_def]; split <;> omega)
      (fun j v hj => by rw [Addr.add_lit]; exact hcs (i * 6 + j) v (by rwa [List.getElem?_drop] at hj))
      (fun j hj => hsp _ (by omega)) (fun j hj => hfz _) (fun v hv => h1c v (List.mem_of_mem_drop hv))
  obtain ⟨W1, hW1⟩ : ∃ W1, W1 = w.drew.setCells b ((i + 1) * 6) (cs.drop (i * 6)) := ⟨_, rfl⟩
  have hsp1 : ∀ k, k < (n + 1) * 6 → (W1.cell? ⟨b, k, none⟩).isSome = true := fun k hk => by
    rw [hW1]
    exact isSome_setCells b (cs.drop (i * 6)) ((i + 1) * 6) w.drew (fun j hj => hsp _ (by rw [hdl] at hj; omega)) k (hsp k hk)
  have hcp2 : ∀ (W : World), (∀ x, W.cell? x = W1.cell? x) → (∀ x, W.frozen? x = W1.frozen? x) → ∀ ty dc, (Builtin.copy_ #[62, 62] ty #[.slice (some ⟨b, i * 6, none⟩) (n + 1 - i) dc, .slice (some ⟨vb, 0, none⟩) 1 1]).run Tryz.prog W = .ok (goInt (Nat.min 1 (n + 1 - i))) (W.setCells b (i * 6) vs) := fun W hWc hWf ty dc =>
    run_copy6 W ty b (i * 6) (n + 1 - i) dc ⟨vb, 0, none⟩ 1 1 vs (by rw [hvl]; simp only [Nat.min_def]; split <;> omega)
      (fun j v hj => by
        rw [Addr.add_lit, Nat.zero_add, hWc, hW1, World.cell?_setCells_out b _ _ _ _ (fun h _ => absurd h hvb)]
        exact hvs j v hj)
      (fun j hj => by rw [hWc]; exact hsp1 _ (by omega)) (fun j hj => by rw [hWf, hW1, World.frozen?_setCells]; exact hfz _) h1v
  rw [← hW1] at hcp1
  go_enter Tryz.func104, Tryz.ntmps104
  go_wp2_with (simp only [hov])
  go_region_law_o (refine step_copy_runI rfl _ _ 62 62 rfl _ _ (by simp [Act.eval, Act.put]) (by simp [Act.eval, Act.put]) (hcp1 _ _ _) ?_)
  go_wp2_with (at_builtin; refine wpList_copy_runI _ rfl _ _ 62 62 rfl _ _ rfl rfl (hcp2 _ (fun _ => rfl) (fun _ => rfl) _ _) ?_)
  go_ret
  first | exact ⟨rfl, rfl⟩ | exact ⟨rfl, by rw [hW1]⟩

abbrev kzc : List Value := [.int .u32 0, .int .i64 0, .bool false, .slice none 0 0, .int .i64 0, .slice none 0 0]
theorem info34m : (Tryz.prog.info? 130).map (fun i => (i.zero, i.size, i.bytes)) = some (some (.agg kzc.toArray), 6, 80) := by kernel_rfl
theorem info34all : ∃ i0, Tryz.prog.info? 130 = some i0 ∧ i0.zero = some (.agg kzc.toArray) ∧ i0.size = 6 ∧ i0.bytes = 80 := by
  have h := info34m
  cases hq : Tryz.prog.info? 130 with
  | none => rw [hq] at h; cases h
  | some i =>
    rw [hq] at h
    simp only [Option.map_some, Option.some.injEq, Prod.mk.injEq] at h
    exact ⟨i, rfl, h.1, h.2.1, h.2.2⟩
set_option maxHeartbeats 4000000 in
theorem insert_grow (b n c i vb : Nat) (cs vs : List Value) (w : World) (hi : i < n) (hnc : n ≤ c) (hroom : c < n + 1) (hbig : n ≤ 10000)
    (hcl : cs.length = n * 6) (hvl : vs.length = 6)
    (hcs : ∀ j v, cs[j]? = some v → w.cell? ⟨b, j, none⟩ = some v)
    (hvs : ∀ j v, vs[j]? = some v → w.cell? ⟨vb, j, none⟩ = some v) (h1c : ∀ v ∈ cs, v.oneCell' = true) (h1v : ∀ v ∈ vs, v.oneCell' = true) :
    Calls Tryz.prog 104 #[.slice (some ⟨b, 0, none⟩) n c, .int .i64 (i : Int), .slice (some ⟨vb, 0, none⟩) 1 1] w fun e w' =>
      ∃ G ROW, n + 1 ≤ G ∧ G ≤ maxLen ∧ ROW.size = G * 6 ∧ (∀ j, j < i * 6 → ROW[j]? = cs[j]?) ∧ e = .returned (.slice (some ⟨w.heap.size, 0, none⟩) (n + 1) G) ∧
      w' = (((w.alloc (.cells ROW 130)).drew.setCells w.heap.size (i * 6) vs).drew).setCells w.heap.size ((i + 1) * 6) (cs.drop (i * 6)) := by
  have mixed := mixed
  have hz2 : ((i : Int) == (n : Int)) = false := by simp; omega
  have hz4 : ¬ ((i : Int) = (n : Int)) := by omega
  have hz3 : (c : Int) < (n : Int) + 1 := by omega
  have hbw : b < w.heap.size := block_lt_of_cell (hcs 0 _ (List.getElem?_eq_getElem (by omega)))
  have hvw : vb < w.heap.size := block_lt_of_cell (hvs 0 _ (List.getElem?_eq_getElem (by omega)))
  have hkk : (n : Int) + 1 - (i : Int) = ((n + 1 - i : Nat) : Int) := by omega
  have hik : i + (n + 1 - i) = n + 1 := by omega
  obtain ⟨i0, hi0, hz0, hzs, hzb⟩ := info34all
  have hold : (Builtin.firstCells i0.size i (.slice (some ⟨b, 0, none⟩) i c)).run Tryz.prog w.drew = .ok (cs.take (i * 6)).toArray w.drew := by
    rw [hzs]
    exact run_firstCells_some w.drew 6 i ⟨b, 0, none⟩ i c (cs.take (i * 6)) (by rw [List.length_take]; omega) (fun j v hj => by
      rw [Addr.add_lit, Nat.zero_add]
      rw [List.getElem?_take] at hj
      split at hj
      · exact hcs j v hj
      · cases hj)
  have hrz : ∀ ty, (Builtin.append_ #[62, 3] ty #[.slice (some ⟨b, 0, none⟩) i c, .int .i64 ((n : Int) + 1 - (i : Int))]).run Tryz.prog w =
      .ok (.slice (some ⟨w.heap.size, 0, none⟩) (n + 1) (grownCap w (n + 1) c 130)) (w.drew.alloc (.cells ((cs.take (i * 6)).toArray ++ Builtin.zeroCells (Value.agg kzc.toArray).cells (n + 1 - i) ++ Builtin.zeroCells (Value.agg kzc.toArray).cells (grownCap w (n + 1) c 130 - (n + 1))) 130)) := fun ty => by
    have h := Lib.run_append_grow_zeros w 62 3 ty 130 i0 _ .i64 .i64 Tryz.underlying62 Tryz.underlying3 hi0 hz0 (some ⟨b, 0, none⟩) i c (cs.take (i * 6)) hold (n + 1 - i) (by omega) (by omega) (by omega) (by omega) (by rw [hzb]; omega) (by rw [hzb, hik]; exact growslice_fits hroom (by omega))
    rw [hik] at h
    rw [hkk]
    exact h
  obtain ⟨G, hG⟩ : ∃ G, G = grownCap w (n + 1) c 130 := ⟨_, rfl⟩
  obtain ⟨ROW, hROW⟩ : ∃ ROW : Array Value, ROW = (cs.take (i * 6)).toArray ++ Builtin.zeroCells (Value.agg kzc.toArray).cells (n + 1 - i) ++ Builtin.zeroCells (Value.agg kzc.toArray).cells (G - (n + 1)) := ⟨_, rfl⟩
  rw [← hG] at hrz
  rw [← hROW] at hrz
  have hGn : n + 1 ≤ G := by rw [hG]; exact grownCap_ge w _ _ _
  have hGm : G ≤ maxLen := by rw [hG]; exact grownCap_le_maxLen w (n + 1) c 130 (by unfold maxLen; omega)
  have hRs : ROW.size = G * 6 := by
    rw [hROW]
    simp [Builtin.zeroCells, Value.cells]
    omega
  have hRt : ∀ j, j < i * 6 → ROW[j]? = cs[j]? := fun j hj => by
    rw [hROW, Array.getElem?_append_left (by simp [Builtin.zeroCells, Value.cells]; omega), Array.getElem?_append_left (by simp; omega)]
    simp [hj]
  obtain ⟨W1, hW1⟩ : ∃ W1, W1 = w.drew.alloc (.cells ROW 130) := ⟨_, rfl⟩
  rw [← hW1] at hrz
  have hN : ∀ j, j < (n + 1) * 6 → (W1.cell? ⟨w.heap.size, j, none⟩).isSome = true := fun j hj => by
    rw [hW1, World.cell?_alloc_at (w := w.drew) ROW _ w.heap.size j rfl, Array.getElem?_eq_getElem (by omega)]; rfl
  have hNf : ∀ j, W1.frozen? ⟨w.heap.size, j, none⟩ = false := fun j => by rw [hW1]; exact World.frozen?_alloc_at (w := w.drew) ROW _ w.heap.size j rfl
  have hOb : ∀ j v, w.cell? ⟨b, j, none⟩ = some v → W1.cell? ⟨b, j, none⟩ = some v := fun j v h => by rw [hW1, World.cell?_alloc_past (w := w.drew) _ b j hbw]; exact h
  have hOv : ∀ j v, w.cell? ⟨vb, j, none⟩ = some v → W1.cell? ⟨vb, j, none⟩ = some v := fun j v h => by rw [hW1, World.cell?_alloc_past (w := w.drew) _ vb j hvw]; exact h
  have hcpA : ∀ (W : World), (∀ x, W.cell? x = W1.cell? x) → (∀ x, W.frozen? x = W1.frozen? x) → ∀ ty dc, (Builtin.copy_ #[62, 62] ty #[.slice (some ⟨w.heap.size, i * 6, none⟩) (n + 1 - i) dc, .slice (some ⟨vb, 0, none⟩) 1 1]).run Tryz.prog W = .ok (goInt (Nat.min 1 (n + 1 - i))) (W.setCells w.heap.size (i * 6) vs) := fun W hWc hWf ty dc =>
    run_copy6 W ty w.heap.size (i * 6) (n + 1 - i) dc ⟨vb, 0, none⟩ 1 1 vs (by rw [hvl]; simp only [Nat.min_def]; split <;> omega)
      (fun j v hj => by rw [Addr.add_lit, Nat.zero_add, hWc]; exact hOv _ v (hvs j v hj))
      (fun j hj => by rw [hWc]; exact hN _ (by omega)) (fun j hj => by rw [hWf]; exact hNf _) h1v
  have hGi : ¬ (G = i) := by omega
  have hGim : ¬ (G = i + 1) := by omega
  have hci : ¬ (c = i) := by omega
  have hbN : b ≠ w.heap.size := by omega
  have hdl : (cs.drop (i * 6)).length = (n - i) * 6 := by rw [List.length_drop, hcl]; omega
  have hcpB : ∀ (W : World), (∀ x, W.cell? x = (W1.setCells w.heap.size (i * 6) vs).cell? x) → (∀ x, W.frozen? x = (W1.setCells w.heap.size (i * 6) vs).frozen? x) → ∀ ty dc sc, (Builtin.copy_ #[62, 62] ty #[.slice (some ⟨w.heap.size, (i + 1) * 6, none⟩) (n - i) dc, .slice (some ⟨b, i * 6, none⟩) (n - i) sc]).run Tryz.prog W = .ok (goInt (Nat.min (n - i) (n - i))) (W.setCells w.heap.size ((i + 1) * 6) (cs.drop (i * 6))) := fun W hWc hWf ty dc sc =>
    run_copy6 W ty w.heap.size ((i + 1) * 6) (n - i) dc ⟨b, i * 6, none⟩ (n - i) sc (cs.drop (i * 6)) (by rw [hdl]; simp only [Nat.min_def]; split <;> omega)
      (fun j v hj => by
        rw [Addr.add_lit, hWc, World.cell?_setCells_out _ _ _ _ _ (fun h _ => absurd h hbN)]
        exact hOb _ v (hcs (i * 6 + j) v (by rwa [List.getElem?_drop] at hj)))
      (fun j hj => by rw [hWc]; exact isSome_setCells _ _ _ _ (fun t ht => hN _ (by omega)) _ (hN _ (by rw [hdl] at hj; omega)))
      (fun j hj => by rw [hWf, World.frozen?_setCells]; exact hNf _) (fun v hv => h1c v (List.mem_of_mem_drop hv))
  subst hW1
  have hE1 : ∀ x, ((w.alloc (.cells ROW 130)).drew).cell? x = (w.drew.alloc (.cells ROW 130)).cell? x := fun x => rfl
  have hE2 : ∀ x, ((w.alloc (.cells ROW 130)).drew).frozen? x = (w.drew.alloc (.cells ROW 130)).frozen? x := fun x => rfl
  have hF1 : ∀ x, (((w.alloc (.cells ROW 130)).drew.setCells w.heap.size (i * 6) vs).drew).cell? x = ((w.drew.alloc (.cells ROW 130)).setCells w.heap.size (i * 6) vs).cell? x := fun x => rfl
  have hF2 : ∀ x, (((w.alloc (.cells ROW 130)).drew.setCells w.heap.size (i * 6) vs).drew).frozen? x = ((w.drew.alloc (.cells ROW 130)).setCells w.heap.size (i * 6) vs).frozen? x := fun x => rfl
  have hw1 : IntKind.i64.wrap ((i : Int) + 1) = (i : Int) + 1 := by rw [IntKind.wrap_i64]; omega
  have hw2 : IntKind.i64.wrap ((n : Int) + 1) = (n : Int) + 1 := by rw [IntKind.wrap_i64]; omega
  have hb1 : (0 : Int) ≤ (i : Int) + 1 := by omega
  have hin : i ≤ n := by omega
  have htn : ((i : Int) + 1).toNat = i + 1 := by omega
  have hb3 : (i : Int) ≤ (n : Int) := by omega
  have hG63 : G ≤ 9223372036854775807 := by unfold maxLen at hGm; omega
  have HGM := Lib.hid hGm
  have HRT := Lib.hid hRt
  have HRS := Lib.hid hRs
  clear hkk hik hold hROW hG hRt hRs hGm
  go_enter Tryz.func104, Tryz.ntmps104
  go_wp2_with (first
    | (at_builtin; refine Lib.wpList_append_run _ rfl _ _ _ _ rfl _ _ rfl rfl _ _ (hrz _) ?_)
    | (at_builtin; refine wpList_copy_runI _ rfl _ _ 62 62 rfl _ _ rfl rfl (hcpA _ hE1 hE2 _ _) ?_)
    | (at_builtin; refine wpList_copy_runI _ rfl _ _ 62 62 rfl _ _ rfl rfl (hcpB _ (fun _ => rfl) (fun _ => rfl) _ _ _) ?_))
  go_region_law_o (refine step_copy_runI rfl _ _ 62 62 rfl (.slice (some ⟨w.heap.size, (i + 1) * 6, none⟩) (n - i) (G - (i + 1))) (.slice (some ⟨b, i * 6, none⟩) (n - i) (c - i)) (by simp [Act.eval, Act.put]) (by simp [Act.eval, Act.put]) (hcpB _ hF1 hF2 3 (G - (i + 1)) (c - i)) ?_)
  go_wp2
  go_ret
  exact ⟨G, ROW, hGn, HGM.out, HRS.out, HRT.out, rfl, rfl⟩

end Go.Proofs.YtpbclmnhkmcknaaGreat.Fe

namespace Go.Proofs.YtpbclmnhkmcknaaGreat.Fe
open Go.RowKit Go.Lib
set_option maxRecDepth 100000
set_option linter.unusedVariables false
set_option linter.unusedSimpArgs false

def insX (m : Nat) (x : Kx) (X : Nat → Kx) : Nat → Kx := fun j => if j < m then X j else if j = m then x else X (j - 1)
theorem insX_k (m : Nat) (x : Kx) (X : Nat → Kx) (j : Nat) : (insX m x X j).k = ins m x.k (fun i => (X i).k) j := by
  unfold insX ins
  by_cases h : j < m
  · rw [if_pos h, if_pos h]
  · rw [if_neg h, if_neg h]
    by_cases h2 : j = m
    · rw [if_pos h2, if_pos h2]
    · rw [if_neg h2, if_neg h2]
theorem grown_of_below {w w' : World} (h : Below w.heap.size w w') (r : Option Nat) : w.grownBy w' r := ⟨h.os, h.tape, h.output, h.size, fun i hi _ => h.block i hi⟩
theorem grown_puts {a w : World} {g : Nat} (h : a.grownBy w (some g)) (vs : List Value) (o : Nat) : a.grownBy (w.setCells g o vs) (some g) := by
  induction vs generalizing w o with
  | nil => exact h
  | cons v r ih => exact ih (grown_put h o v) (o + 1)
/-- A row with one element more. -/
theorem ownK_ins {w : World} {B g G n i : Nat} {X : Nat → Kx} {y : Kx} {ds : Array Value} (hL : Lies w g 130 ds) (hB : B ≤ g) (hG : n + 1 ≤ G) (hm : G ≤ maxLen) (hs : ds.size = G * 6) (hi : i ≤ n)
    (hd : ∀ k j, k < n + 1 → j < 6 → ds[k * 6 + j]? = if k < i then (kv n X)[k * 6 + j]? else if k = i then (kc y).toList[j]? else (kv n X)[(k - 1) * 6 + j]?) :
    OwnK w B (.slice (some ⟨g, 0, none⟩) (n + 1) G) (n + 1) (insX i y X) := by
  refine ⟨kv_length _ _, .inr ⟨g, G, ds, rfl, hB, hL, hG, hm, hs, ?_⟩⟩
  refine kv_ext (by simp [hs]; omega) (fun k j hk hj => ?_)
  rw [List.getElem?_take, if_pos (by omega), Array.getElem?_toList, hd k j hk hj]
  unfold insX
  by_cases h : k < i
  · rw [if_pos h, if_pos h, kv_at n X k j (by omega) hj]
  · rw [if_neg h, if_neg h]
    by_cases h2 : k = i
    · rw [if_pos h2, if_pos h2]
    · rw [if_neg h2, if_neg h2, kv_at n X (k - 1) j (by omega) hj]
theorem shift_at (cs ys : List Value) (cur d1 d2 : Array Value) (n i : Nat) (hcl : cs.length = n * 6) (hyl : ys.length = 6) (hi : i < n) (hcur : ∀ j, j < n * 6 → cur[j]? = cs[j]?)
    (e1 : ∀ j, d1[j]? = if (i + 1) * 6 ≤ j ∧ j < (i + 1) * 6 + (cs.drop (i * 6)).length then (cs.drop (i * 6))[j - (i + 1) * 6]? else cur[j]?)
    (e2 : ∀ j, d2[j]? = if i * 6 ≤ j ∧ j < i * 6 + ys.length then ys[j - i * 6]? else d1[j]?) :
    ∀ k j, k < n + 1 → j < 6 → d2[k * 6 + j]? = if k < i then cs[k * 6 + j]? else if k = i then ys[j]? else cs[(k - 1) * 6 + j]? := by
  intro k j hk hj
  rw [e2, e1, List.length_drop, hcl, hyl]
  by_cases h : k < i
  · rw [if_neg (by omega), if_neg (by omega), if_pos h, hcur _ (by omega)]
  · rw [if_neg h]
    by_cases h2 : k = i
    · rw [if_pos (by omega), if_pos h2, show k * 6 + j - i * 6 = j by omega]
    · rw [if_neg (by omega), if_pos (by omega), if_neg h2, List.getElem?_drop, show i * 6 + (k * 6 + j - (i + 1) * 6) = (k - 1) * 6 + j by omega]
theorem grow_at (cs ys : List Value) (ROW d1 d2 : Array Value) (n i : Nat) (hcl : cs.length = n * 6) (hyl : ys.length = 6) (hi : i < n) (hRt : ∀ j, j < i * 6 → ROW[j]? = cs[j]?)
    (e1 : ∀ j, d1[j]? = if i * 6 ≤ j ∧ j < i * 6 + ys.length then ys[j - i * 6]? else ROW[j]?)
    (e2 : ∀ j, d2[j]? = if (i + 1) * 6 ≤ j ∧ j < (i + 1) * 6 + (cs.drop (i * 6)).length then (cs.drop (i * 6))[j - (i + 1) * 6]? else d1[j]?) :
    ∀ k j, k < n + 1 → j < 6 → d2[k * 6 + j]? = if k < i then cs[k * 6 + j]? else if k = i then ys[j]? else cs[(k - 1) * 6 + j]? := by
  intro k j hk hj
  rw [e2, e1, List.length_drop, hcl, hyl]
  by_cases h : k < i
  · rw [if_neg (by omega), if_neg (by omega), if_pos h, hRt _ (by omega)]
  · rw [if_neg h]
    by_cases h2 : k = i
    · rw [if_neg (by omega), if_pos (by omega), if_pos h2, show k * 6 + j - i * 6 = j by omega]
    · rw [if_pos (by omega), if_neg h2, List.getElem?_drop, show i * 6 + (k * 6 + j - (i + 1) * 6) = (k - 1) * 6 + j by omega]
theorem shape_lies {w : World} {g : Nat} {t : TypeId} {cs : Array Value} (h : Lies w g t cs) : w.shape? g = some (t, cs.size) := by
  unfold Lies at h
  simp [World.shape?, h]
set_option maxHeartbeats 1000000 in
theorem insert_end (B g0 n c : Nat) (A : Option Addr) (X : Nat → Kx) (y : Kx) (w : World) (hown : OwnK w B (.slice A n c) n X) (hy : KT w y) (hg : Lies w g0 130 (kc y)) (hn : n ≤ 1000) (hB : B ≤ w.heap.size) (hnc : n ≤ c) :
    Calls Tryz.prog 104 #[.slice A n c, .int .i64 (n : Int), .slice (some ⟨g0, 0, none⟩) 1 1] w fun e w' => ∃ v', e = .returned v' ∧ OwnK w' B v' (n + 1) (insX n y X) ∧ w.grownBy w' (Value.slice A n c).ownBlock := by
  have HO := Lib.hid hown
  have HS : Hid (Ks w (some ⟨g0, 0, none⟩) 1 (fun _ => y)) := Lib.hid (by
    refine ⟨fun _ => ⟨g0, 0, rfl, fun k hk j hj => ?_⟩, fun _ _ => hy⟩
    rw [hg.cell]
    obtain rfl : k = 0 := by omega
    simp)
  have HI : Hid (∀ k, k < n + 1 → (if k < n then X k else y) = insX n y X k) := Lib.hid (fun k hk => by
    unfold insX
    by_cases h : k < n
    · rw [if_pos h, if_pos h]
    · rw [if_neg h, if_neg h, if_pos (by omega)])
  clear hown hy hg
  have z1 : ((n : Int) == (n : Int)) = true := by simp
  have q2 : (n : Int) ≤ (n : Int) := by omega
  by_cases hcn : c = n
  · subst hcn
    go_enter Tryz.func104, Tryz.ntmps104
    go_wp2_with (first
      | ((with_reducible refine wpl_appendK (some 25) _ _ _ (.tmp 23) (.tmp 24) B (.slice A c c) c X (some ⟨g0, 0, none⟩) 1 1 (fun _ => y) ?hs ?hx HO.out HS.out ?ha ?hm ?hz ?_); (case hs => rfl); (case hx => rfl); (case ha => (intro h; cases h)); (case hm => omega); (case hz => exact hB); (intro v' w' ho hgr hv); (have HO2 := Lib.hid ho); (have HG2 := Lib.hid hgr); (clear ho hgr hv)))
    all_goals
      go_ret
      exact ⟨_, rfl, HO2.out.congr HI.out, HG2.out⟩
  · have q1 : (n : Int) ≤ (c : Int) := by omega
    go_enter Tryz.func104, Tryz.ntmps104
    go_wp2_with (first
      | ((with_reducible refine wpl_appendK (some 25) _ _ _ (.tmp 23) (.tmp 24) B (.slice A n c) n X (some ⟨g0, 0, none⟩) 1 1 (fun _ => y) ?hs ?hx HO.out HS.out ?ha ?hm ?hz ?_); (case hs => rfl); (case hx => rfl); (case ha => (intro h; cases h)); (case hm => omega); (case hz => exact hB); (intro v' w' ho hgr hv); (have HO2 := Lib.hid ho); (have HG2 := Lib.hid hgr); (clear ho hgr hv)))
    all_goals
      go_ret
      exact ⟨_, rfl, HO2.out.congr HI.out, HG2.out⟩
theorem insert_mid (B b g0 n c i : Nat) (X : Nat → Kx) (y : Kx) (w : World) (cur : Array Value) (hL : Lies w b 130 cur) (hb : B ≤ b) (hs : cur.size = c * 6) (hcur : ∀ j, j < n * 6 → cur[j]? = (kv n X)[j]?) (hX : ∀ i, i < n → One (X i)) (hy : One y) (hg : Lies w g0 130 (kc y)) (hgb : g0 ≠ b) (hi : i < n) (hn : n ≤ 1000) (hB : B ≤ w.heap.size) (hnc : n ≤ c) (hcm : c ≤ maxLen) :
    Calls Tryz.prog 104 #[.slice (some ⟨b, 0, none⟩) n c, .int .i64 (i : Int), .slice (some ⟨g0, 0, none⟩) 1 1] w fun e w' => ∃ v', e = .returned v' ∧ OwnK w' B v' (n + 1) (insX i y X) ∧ w.grownBy w' (some b) := by
  have hcs : ∀ j v, (kv n X)[j]? = some v → w.cell? ⟨b, j, none⟩ = some v := fun j v h => by
    have hj : j < n * 6 := by have := (List.getElem?_eq_some_iff.1 h).1; rwa [kv_length] at this
    rw [hL.cell, hcur j hj, h]
  have hvs : ∀ j v, (kc y).toList[j]? = some v → w.cell? ⟨g0, j, none⟩ = some v := fun j v h => by
    rw [hg.cell]; simpa using h
  have hyl : (kc y).toList.length = 6 := rfl
  have h1y := kc_one y hy
  have hsa := shape_lies hg
  have hga : (kc y).size = 6 := rfl
  rw [hga] at hsa
  have hf0 := hg.free 0
  have hf6 := hg.free 6
  have HI := fun (ds : Array Value) (W : World) (g G : Nat) (h1 : Lies W g 130 ds) (h2 : B ≤ g) (h3 : n + 1 ≤ G) (h4 : G ≤ maxLen) (h5 : ds.size = G * 6) h6 => ownK_ins (B := B) (n := n) (i := i) (X := X) (y := y) h1 h2 h3 h4 h5 (Nat.le_of_lt hi) h6
  generalize (kc y).toList = ys at *
  clear hg
  have hkl := kv_length n X
  have h1c := kv_one n X hX
  generalize kv n X = cs at *
  by_cases hroom : n + 1 ≤ c
  · have h63 : c ≤ 9223372036854775807 := by unfold maxLen at hcm; omega
    have hsp : ∀ j, j < (n + 1) * 6 → (w.cell? ⟨b, j, none⟩).isSome = true := fun j hj => by rw [hL.cell, Array.getElem?_eq_getElem (by omega)]; rfl
    have hsb := shape_lies hL
    have hk0 : cur.size ≠ 0 := by omega
    refine (insert_shift b n c i g0 cs ys w hi hroom h63 hgb hkl hyl hcs hsp (fun j => hL.free j) hvs h1c h1y 130 130 6 cur.size hsa hsb hk0 hf0 hf6).mono ?_
    rintro e w' ⟨rfl, rfl⟩
    have l1 : (i + 1) * 6 + (cs.drop (i * 6)).length ≤ cur.size := by rw [List.length_drop, hkl, hs]; omega
    obtain ⟨d1, k1, s1, e1⟩ := Lies.puts' (cs.drop (i * 6)) ((i + 1) * 6) w.drew cur hL l1
    have l2 : i * 6 + ys.length ≤ d1.size := by rw [s1, hs, hyl]; omega
    obtain ⟨d2, k2, s2, e2⟩ := Lies.puts' ys (i * 6) _ d1 k1 l2
    exact ⟨_, rfl, HI d2 _ b c k2 hb hroom hcm (by rw [s2, s1, hs]) (shift_at cs ys cur d1 d2 n i hkl hyl hi hcur e1 e2), grown_puts (grown_puts (grown_drew (World.grownBy.refl w _)) _ _) _ _⟩
  · refine (insert_grow b n c i g0 cs ys w hi hnc (by omega) (by omega) hkl hyl hcs hvs h1c h1y).mono ?_
    rintro e w' ⟨G, ROW, hG, hGm, hRs, hRt, rfl, rfl⟩
    have k0 : Lies (w.alloc (.cells ROW 130)).drew w.heap.size 130 ROW := Lies.made w 130 ROW
    have l1 : i * 6 + ys.length ≤ ROW.size := by rw [hRs, hyl]; omega
    obtain ⟨d1, k1, s1, e1⟩ := Lies.puts' ys (i * 6) _ ROW k0 l1
    have k1' : Lies ((w.alloc (.cells ROW 130)).drew.setCells w.heap.size (i * 6) ys).drew w.heap.size 130 d1 := k1
    have l2 : (i + 1) * 6 + (cs.drop (i * 6)).length ≤ d1.size := by rw [List.length_drop, hkl, s1, hRs]; omega
    obtain ⟨d2, k2, s2, e2⟩ := Lies.puts' (cs.drop (i * 6)) ((i + 1) * 6) _ d1 k1' l2
    exact ⟨_, rfl, HI d2 _ w.heap.size G k2 hB hG hGm (by rw [s2, s1, hRs]) (grow_at cs ys ROW d1 d2 n i hkl hyl hi hRt e1 e2), grown_of_below (below_puts ((below_puts (below1 w _).drew (Nat.le_refl _) _ _).drew) (Nat.le_refl _) _ _) _⟩
theorem insert_any (B g0 n i : Nat) (v : Value) (X : Nat → Kx) (y : Kx) (w : World) (hown : OwnK w B v n X) (hX : ∀ i, i < n → One (X i)) (hy : KT w y) (hg : Lies w g0 130 (kc y)) (hne : v.ownBlock ≠ some g0) (hi : i ≤ n) (hn : n ≤ 1000) (hB : B ≤ w.heap.size) :
    Calls Tryz.prog 104 #[v, .int .i64 (i : Int), .slice (some ⟨g0, 0, none⟩) 1 1] w fun e w' => ∃ v', e = .returned v' ∧ OwnK w' B v' (n + 1) (insX i y X) ∧ w.grownBy w' v.ownBlock := by
  by_cases hin : i = n
  · subst hin
    obtain ⟨A, c, rfl, hnc, hcm, hA, hat⟩ := hown.slice
    exact insert_end B g0 i c A X y w hown hy hg hn hB hnc
  · have hlt : i < n := by omega
    rcases hown.2 with ⟨h1, h2⟩ | ⟨g, cap, cur, hv, hb, hL, hnc, hcm, hs, ht⟩
    · omega
    · subst hv
      exact insert_mid B g g0 n cap i X y w cur hL hb hs (fun j hj => by rw [← ht, List.getElem?_take, if_pos hj, Array.getElem?_toList]) hX hy.one hg (fun e => hne (by rw [e]; rfl)) hlt hn hB hnc hcm

end Go.Proofs.YtpbclmnhkmcknaaGreat.Fe

namespace Go.Proofs.YtpbclmnhkmcknaaGreat.Fe
open Go.RowKit

section
variable {P : Program} {ops : Array Oper} {Q : Exit → Act → World → Prop} {md : Region.Mode} {S : World → Prop}

/-- An operation that is wanted, and yields the same in every world that meets S, is taken first. -/
theorem any_take (i : Nat) (d : Tmp) {oi : Oper} (v : Value) {fuel : Nat} {listed : Array Bool} {a : Act} {w : World} (hi : ops[i]? = some oi) (hd : oi.dst = some d)
    (hs : Region.noSelect ops = true) (hf : Region.free md ops listed i = true) (hr : (Region.ready md ops listed).contains i = true)
    (hQ : ∀ c a w, Q (.panic c) (a.put (some d) v) w → Q (.panic c) a w) (hw : Region.wanted oi (yielded ops a.tmps) = true) (hy : ∀ w, S w → (execOp a.eval oi).run P w = .ok (.value v) w) (hS : S w)
    (h : wpAnyH P md ops Q S fuel (listed.setIfInBounds i true) (a.put (some d) v) w) : wpAnyH P md ops Q S (fuel + 1) listed a w :=
  wpAnyH_take hi hs hf hr (by rw [hd]; exact hQ) (.inl ⟨hw, hy⟩) hS (by rw [hd]; exact h)

/-- An operation that is not wanted. -/
theorem any_skip (i : Nat) (d : Tmp) {oi : Oper} {fuel : Nat} {listed : Array Bool} {a : Act} {w : World} (hi : ops[i]? = some oi) (hd : oi.dst = some d)
    (hs : Region.noSelect ops = true) (hf : Region.free md ops listed i = true) (hr : (Region.ready md ops listed).contains i = true)
    (hQ : ∀ c a w, Q (.panic c) (a.put (some d) undef) w → Q (.panic c) a w) (hw : Region.wanted oi (yielded ops a.tmps) = false) (hS : S w)
    (h : wpAnyH P md ops Q S fuel (listed.setIfInBounds i true) (a.put (some d) undef) w) : wpAnyH P md ops Q S (fuel + 1) listed a w :=
  wpAnyH_take hi hs hf hr (by rw [hd]; exact hQ) (.inr ⟨hw, rfl⟩) hS (by rw [hd]; exact h)
end

end Go.Proofs.YtpbclmnhkmcknaaGreat.Fe

namespace Go.Proofs.YtpbclmnhkmcknaaGreat.Fe
open Go.RowKit
set_option maxRecDepth 100000
set_option linter.unusedVariables false
set_option linter.unusedSimpArgs false

theorem isVerdict_any (c : Int) (w : World) : Calls Tryz.prog 132 #[.int .i64 c] w fun e w' => e = .returned (.bool (decide (c = 1 ∨ c = 2))) ∧ w = w' := by
  by_cases h1 : c = 1
  · subst h1
    go_enter Tryz.func132, Tryz.ntmps132
    go_wp2
    go_ret
    exact ⟨rfl, rfl⟩
  · by_cases h2 : c = 2
    · subst h2
      go_enter Tryz.func132, Tryz.ntmps132
      go_wp2
      go_ret
      exact ⟨rfl, rfl⟩
    · have b1 : (c == 1) = false := by simpa using h1
      have b2 : (c == 2) = false := by simpa using h2
      rw [show decide (c = 1 ∨ c = 2) = false from by simp [h1, h2]]
      clear h1 h2
      go_enter Tryz.func132, Tryz.ntmps132
      go_wp2
      go_ret
      exact ⟨rfl, rfl⟩

set_option maxHeartbeats 4000000 in
theorem isValid_w (o : Nat) (s : Int) (u : Bool) (A1 : Option Addr) (n1 c1 : Nat) (c : Int) (A2 : Option Addr) (n2 c2 : Nat) (w : World) :
    Calls Tryz.prog 125 #[.agg #[.int .u32 (o : Int), .int .i64 s, .bool u, .slice A1 n1 c1, .int .i64 c, .slice A2 n2 c2]] w fun e w' =>
      e = .returned (.bool (decide (1 ≤ o ∧ 0 ≤ s ∧ s ≤ 15 ∧ n1 ≤ 255 ∧ n2 ≤ 255 ∧ (c = 1 ∨ c = 2)))) ∧ Below w.heap.size w w' := by
  have C := Lib.hid (fun W => isVerdict_any c W)
  have HB := Lib.hid (below1 w (.cells #[.int .u32 (o : Int), .int .i64 s, .bool u, .slice A1 n1 c1, .int .i64 c, .slice A2 n2 c2] 130))
  by_cases h0 : 1 ≤ o
  · skip
    by_cases h1 : 0 ≤ s
    · skip
      by_cases h2 : s ≤ 15
      · skip
        by_cases h3 : n1 ≤ 255
        · skip
          by_cases h4 : n2 ≤ 255
          · skip
            rw [show decide (1 ≤ o ∧ 0 ≤ s ∧ s ≤ 15 ∧ n1 ≤ 255 ∧ n2 ≤ 255 ∧ (c = 1 ∨ c = 2)) = decide (c = 1 ∨ c = 2) from by simp only [h0, h1, h2, h3, h4, true_and]]
            generalize decide (c = 1 ∨ c = 2) = q at *
            have d0_0 : decide ((1 : Int) ≤ (o : Int)) = true := by rw [decide_eq_true_iff]; omega
            have d0_1 : decide (1 ≤ o) = true := by rw [decide_eq_true_iff]; omega
            have d1_0 : decide (0 ≤ s) = true := by rw [decide_eq_true_iff]; omega
            have d2_0 : decide (s < 16) = true := by rw [decide_eq_true_iff]; omega
            have d3_0 : decide ((n1 : Int) ≤ 255) = true := by rw [decide_eq_true_iff]; omega
            have d3_1 : decide (n1 ≤ 255) = true := by rw [decide_eq_true_iff]; omega
            have d4_0 : decide ((n2 : Int) ≤ 255) = true := by rw [decide_eq_true_iff]; omega
            have d4_1 : decide (n2 ≤ 255) = true := by rw [decide_eq_true_iff]; omega
            clear h0 h1 h2 h3 h4
            go_enter Tryz.func125, Tryz.ntmps125
            go_wp2_with fail
            with_reducible refine (C.out _).mono ?_
            rintro e w1 ⟨rfl, rfl⟩
            go_wp2
            go_ret
            exact ⟨rfl, HB.out⟩
          · rw [show decide (1 ≤ o ∧ 0 ≤ s ∧ s ≤ 15 ∧ n1 ≤ 255 ∧ n2 ≤ 255 ∧ (c = 1 ∨ c = 2)) = false from by rw [decide_eq_false_iff_not]; omega]
            have d0_0 : decide ((1 : Int) ≤ (o : Int)) = true := by rw [decide_eq_true_iff]; omega
            have d0_1 : decide (1 ≤ o) = true := by rw [decide_eq_true_iff]; omega
            have d1_0 : decide (0 ≤ s) = true := by rw [decide_eq_true_iff]; omega
            have d2_0 : decide (s < 16) = true := by rw [decide_eq_true_iff]; omega
            have d3_0 : decide ((n1 : Int) ≤ 255) = true := by rw [decide_eq_true_iff]; omega
            have d3_1 : decide (n1 ≤ 255) = true := by rw [decide_eq_true_iff]; omega
            have d4_0 : decide ((n2 : Int) ≤ 255) = false := by rw [decide_eq_false_iff_not]; omega
            have d4_1 : decide (n2 ≤ 255) = false := by rw [decide_eq_false_iff_not]; omega
            clear h0 h1 h2 h3 h4
            go_enter Tryz.func125, Tryz.ntmps125
            go_wp2
            go_ret
            exact ⟨rfl, HB.out⟩
        · rw [show decide (1 ≤ o ∧ 0 ≤ s ∧ s ≤ 15 ∧ n1 ≤ 255 ∧ n2 ≤ 255 ∧ (c = 1 ∨ c = 2)) = false from by rw [decide_eq_false_iff_not]; omega]
          have d0_0 : decide ((1 : Int) ≤ (o : Int)) = true := by rw [decide_eq_true_iff]; omega
          have d0_1 : decide (1 ≤ o) = true := by rw [decide_eq_true_iff]; omega
          have d1_0 : decide (0 ≤ s) = true := by rw [decide_eq_true_iff]; omega
          have d2_0 : decide (s < 16) = true := by rw [decide_eq_true_iff]; omega
          have d3_0 : decide ((n1 : Int) ≤ 255) = false := by rw [decide_eq_false_iff_not]; omega
          have d3_1 : decide (n1 ≤ 255) = false := by rw [decide_eq_false_iff_not]; omega
          clear h0 h1 h2 h3
          go_enter Tryz.func125, Tryz.ntmps125
          go_wp2
          go_ret
          exact ⟨rfl, HB.out⟩
      · rw [show decide (1 ≤ o ∧ 0 ≤ s ∧ s ≤ 15 ∧ n1 ≤ 255 ∧ n2 ≤ 255 ∧ (c = 1 ∨ c = 2)) = false from by rw [decide_eq_false_iff_not]; omega]
        have d0_0 : decide ((1 : Int) ≤ (o : Int)) = true := by rw [decide_eq_true_iff]; omega
        have d0_1 : decide (1 ≤ o) = true := by rw [decide_eq_true_iff]; omega
        have d1_0 : decide (0 ≤ s) = true := by rw [decide_eq_true_iff]; omega
        have d2_0 : decide (s < 16) = false := by rw [decide_eq_false_iff_not]; omega
        clear h0 h1 h2
        go_enter Tryz.func125, Tryz.ntmps125
        go_wp2
        go_ret
        exact ⟨rfl, HB.out⟩
    · rw [show decide (1 ≤ o ∧ 0 ≤ s ∧ s ≤ 15 ∧ n1 ≤ 255 ∧ n2 ≤ 255 ∧ (c = 1 ∨ c = 2)) = false from by rw [decide_eq_false_iff_not]; omega]
      have d0_0 : decide ((1 : Int) ≤ (o : Int)) = true := by rw [decide_eq_true_iff]; omega
      have d0_1 : decide (1 ≤ o) = true := by rw [decide_eq_true_iff]; omega
      have d1_0 : decide (0 ≤ s) = false := by rw [decide_eq_false_iff_not]; omega
      clear h0 h1
      go_enter Tryz.func125, Tryz.ntmps125
      go_wp2
      go_ret
      exact ⟨rfl, HB.out⟩
  · rw [show decide (1 ≤ o ∧ 0 ≤ s ∧ s ≤ 15 ∧ n1 ≤ 255 ∧ n2 ≤ 255 ∧ (c = 1 ∨ c = 2)) = false from by rw [decide_eq_false_iff_not]; omega]
    have d0_0 : decide ((1 : Int) ≤ (o : Int)) = false := by rw [decide_eq_false_iff_not]; omega
    have d0_1 : decide (1 ≤ o) = false := by rw [decide_eq_false_iff_not]; omega
    clear h0
    go_enter Tryz.func125, Tryz.ntmps125
    go_wp2
    go_ret
    exact ⟨rfl, HB.out⟩

theorem KT.slices {w : World} {x : Kx} (h : KT w x) : ∃ A1 c1 A2 c2, x.K = .slice A1 x.k.a.length c1 ∧ x.D = .slice A2 x.k.r.length c2 := by
  obtain ⟨A1, c1, e1, _⟩ := h.a
  obtain ⟨A2, c2, e2, _⟩ := h.r
  exact ⟨A1, c1, A2, c2, e1, e2⟩
theorem isValid_any (x : Kx) (A1 A2 : Option Addr) (c1 c2 : Nat) (hK : x.K = .slice A1 x.k.a.length c1) (hD : x.D = .slice A2 x.k.r.length c2) (w : World) :
    Calls Tryz.prog 125 #[.agg (kc x)] w fun e w' => e = .returned (.bool (vk x.k)) ∧ Below w.heap.size w w' := by
  have h := isValid_w x.k.o x.k.s x.k.u A1 x.k.a.length c1 x.k.c A2 x.k.r.length c2 w
  rw [← hK, ← hD] at h
  exact h

theorem chkC_bad {n : Nat} {T : Nat → Kp} (h : okB n T = false) : chkC n T = 2 := by unfold chkC; rw [h]; rfl
theorem chkC_ok {n : Nat} {T : Nat → Kp} (h : okB n T = true) : chkC n T = 0 := by unfold chkC; rw [h]; rfl
/-- The key that stands ahead. -/
def prevK (T : Nat → Kp) (j : Nat) : Kp := if j = 0 then kz else T (j - 1)
def CkR (w : World) (n : Nat) (T : Nat → Kp) (g : Nat) (i : Value) (wr : World) : Prop :=
  ∃ j : Nat, j ≤ n ∧ i = .int .i64 (j : Int) ∧ upTo T j ∧ Lies wr g 204 (ky (prevK T j).o (prevK T j).s (prevK T j).u) ∧ Below w.heap.size w wr
theorem prev_lt {T : Nat → Kp} {j : Nat} (hv : vk (T j) = true) : (prevK T j).k < (T j).k ↔ (0 < j → (T (j - 1)).k < (T j).k) := by
  unfold prevK
  by_cases h : j = 0
  · subst h
    rw [if_pos rfl]
    refine ⟨fun _ h => by omega, fun _ => ?_⟩
    have := (vk_iff _).1 hv
    show kn 0 0 false < kn _ _ _
    have h2 := b2n_le (T 0).u
    unfold kn Ent.b2n
    simp
    omega
  · rw [if_neg h]
    exact ⟨fun h _ => h, fun h' => h' (by omega)⟩
theorem prev_bnd {T : Nat → Kp} {j : Nat} (h : upTo T j) : in64 (prevK T j).s := by
  unfold prevK
  by_cases h0 : j = 0
  · rw [if_pos h0]; unfold in64; decide
  · rw [if_neg h0]
    have := (vk_iff _).1 (h (j - 1) (by omega)).1
    unfold in64; omega
set_option maxHeartbeats 8000000 in
theorem check_fence (ep : Nat) (A : Option Addr) (n c : Nat) (T : Nat → Kp) (w : World) (hF : FV w A n c T) :
    Calls Tryz.prog 95 #[.agg #[.int .u32 (ep : Int), .slice A n c]] w fun e w' => e = .returned (.int .i64 (chkC n T : Nat)) ∧ Below w.heap.size w w' := by
  by_cases hn : 200 < n
  · rw [chkC_bad (okB_big hn)]
    have d1 : decide ((200 : Int) < (n : Int)) = true := by rw [decide_eq_true_iff]; omega
    have d2 : decide (200 < n) = true := by rw [decide_eq_true_iff]; omega
    have HB := Lib.hid (below1 w (.cells #[.int .u32 (ep : Int), .slice A n c] 64))
    clear hF
    go_enter Tryz.func95, Tryz.ntmps95
    go_wp2
    go_ret
    exact ⟨rfl, HB.out⟩
  · obtain ⟨_, _, _, X, hK, hX⟩ := hF
    have d1 : decide ((200 : Int) < (n : Int)) = false := by rw [decide_eq_false_iff_not]; omega
    have d2 : decide (200 < n) = false := by rw [decide_eq_false_iff_not]; omega
    have HK := Lib.hid hK
    have HX := Lib.hid hX
    have hn2 : n ≤ 200 := by omega
    clear hK hX hn
    have LB := Lib.hid (Lies.made2 w (.cells #[.int .u32 (ep : Int), .slice A n c] 64) 204 #[.int .u32 0, .int .i64 0, .bool false])
    have HB := Lib.hid (below2 w (.cells #[.int .u32 (ep : Int), .slice A n c] 64) (.cells #[.int .u32 0, .int .i64 0, .bool false] 204))
    go_enter Tryz.func95, Tryz.ntmps95
    go_wp2_with fail
    go_loopw [13] (CkR w n T (w.heap.size + 1)) (fun i _ => n - (intOf i).toNat)
    case atStart => exact ⟨0, by omega, rfl, (fun i hi => by omega), LB.out, HB.out⟩
    case round =>
      obtain ⟨j, hj, rfl, hup, hL, hbel⟩ := hrel
      have HUP := Lib.hid hup
      have HL := Lib.hid hL
      have BB := Lib.hid hbel
      have HPB := Lib.hid (prev_bnd hup)
      clear hup hL hbel
      by_cases hlt : j < n
      · obtain ⟨b, off, rfl, _⟩ := HK.out.1 (by omega)
        have HKW := Lib.hid (HK.out.below BB.out)
        obtain ⟨q0, q1, q2, q3, q4, q5⟩ := HKW.out.at j hlt
        have hi : (j : Int) < (n : Int) := by omega
        have HKT := Lib.hid (HKW.out.2 j hlt)
        obtain ⟨A1, c1, A2, c2, e1, e2⟩ := HKT.out.slices
        have HTJ := Lib.hid (HX.out j hlt)
        have HPE : Hid ((prevK T (j + 1)).o = (X j).k.o ∧ (prevK T (j + 1)).s = (X j).k.s ∧ (prevK T (j + 1)).u = (X j).k.u) := Lib.hid (by
          have e : prevK T (j + 1) = T j := by unfold prevK; rw [if_neg (by omega), Nat.add_sub_cancel]
          rw [e, HTJ.out]; exact ⟨rfl, rfl, rfl⟩)
        have CV := Lib.hid (fun W => isValid_any (X j) A1 A2 c1 c2 e1 e2 W)
        have CK := Lib.hid (fun W => keyOf_any (X j) W)
        have CC := Lib.hid (fun W => compareKeys_any (prevK T j).o (X j).k.o (prevK T j).s (X j).k.s (prevK T j).u (X j).k.u HPB.out HKT.out.s W)
        have HVK : Hid (vk (X j).k = vk (T j)) := Lib.hid (by rw [HTJ.out])
        have HKE : Hid (kn (X j).k.o (X j).k.s (X j).k.u = (T j).k) := Lib.hid (by rw [HTJ.out])
        rw [HVK.out] at CV
        rw [HKE.out] at CC
        have HPL := Lib.hid (show vk (T j) = true → (kn (prevK T j).o (prevK T j).s (prevK T j).u < (T j).k ↔ (0 < j → (T (j - 1)).k < (T j).k)) from fun hv => prev_lt (T := T) (j := j) hv)
        have LY := Lib.hid (HL.out.alloc (.cells (kc (X j)) 130))
        have LX := Lib.hid (Lies.made wr 130 (kc (X j)))
        have BX := Lib.hid (BB.out.alloc BB.out.size (.cells (kc (X j)) 130))
        clear HKW HKT HPB HL HVK HKE
        rw [e1] at q3
        rw [e2] at q5
        generalize X j = x at *
        obtain ⟨⟨xo, xs, xu, xa, xc, xr⟩, xK, xD⟩ := x
        dsimp only at *
        subst e1 e2
        generalize xa.length = n1 at *
        generalize xr.length = n2 at *
        generalize kn (prevK T j).o (prevK T j).s (prevK T j).u = pk at *
        generalize (prevK T j).o = po at *
        generalize (prevK T j).s = ps at *
        generalize (prevK T j).u = pu at *
        obtain ⟨k0, k1, k2⟩ := LY.out.cells3
        obtain ⟨f0, f1, f2⟩ := LY.out.free3
        cases hv : vk (T j)
        · rw [hv] at CV
          have HBAD : Hid (okB n T = false) := Lib.hid (okB_bad j hlt (by unfold goodAt; rw [hv]; rfl))
          clear hv HPL
          go_wp2_with fail
          clear k0 k1 k2 f0 f1 f2
          refine wp_region_noPanic ?_
          refine wp_region_held_drew (S := fun W => Lies W (w.heap.size + 1) 204 #[.int .u32 (po : Int), .int .i64 ps, .bool pu] ∧ Lies W wr.heap.size 130 #[.int .u32 (xo : Int), .int .i64 xs, .bool xu, .slice A1 n1 c1, .int .i64 xc, .slice A2 n2 c2]) (by kernel_rfl) ⟨LY.out, LX.out⟩ (fun hH0 => ?_)
          refine any_take 0 17 ?vk1x0 rfl rfl (by kernel_rfl) (by kernel_rfl) (by kernel_rfl) (fun _ _ _ h => h) (by rfl) ?hyk1x0 hH0 ?restk1x0
          case hyk1x0 => ((intro W hSw); obtain ⟨o0_0, o0_1, o0_2⟩ := Lies.cells3 hSw.1; obtain ⟨o1_0, o1_1, o1_2, o1_3, o1_4, o1_5⟩ := Lies.cells6 hSw.2; go_simp; (try with_reducible rfl))
          try simp only [Act.put, List.setIfInBounds_toArray, List.set_cons_zero, List.set_cons_succ]
          refine wpAnyH_ready (rs := [1]) (by kernel_rfl) (by simp) ?_
          refine AllReadyH.cons rfl (fun K hK => ?_) AllReadyH.nil
          go_simp
          go_at_call 125
          with_reducible refine (CV.out _).mono ?_
          rintro x w1 ⟨rfl, hb⟩
          have LY_1 := Lib.hid (Lies.below (w := (wr.alloc (.cells #[.int .u32 (xo : Int), .int .i64 xs, .bool xu, .slice A1 n1 c1, .int .i64 xc, .slice A2 n2 c2] 130)).drew) LY.out hb (Lies.lt LY.out))
          have LX_1 := Lib.hid (Lies.below (w := (wr.alloc (.cells #[.int .u32 (xo : Int), .int .i64 xs, .bool xu, .slice A1 n1 c1, .int .i64 xc, .slice A2 n2 c2] 130)).drew) LX.out hb (Lies.lt LX.out))
          have BX_1 := Lib.hid (BX.out.drew.trans (hb.mono BX.out.size))
          refine hK.out _ _ (⟨LY_1.out, LX_1.out⟩) (fun hH1 => ?_)
          clear hK K hH0 hb
          try simp only [Act.put, List.setIfInBounds_toArray, List.set_cons_zero, List.set_cons_succ]
          refine any_take 2 19 ?vk1x2 rfl rfl (by kernel_rfl) (by kernel_rfl) (by kernel_rfl) (fun _ _ _ h => h) (by rfl) ?hyk1x2 hH1 ?restk1x2
          case hyk1x2 => ((intro W hSw); obtain ⟨o0_0, o0_1, o0_2⟩ := Lies.cells3 hSw.1; obtain ⟨o1_0, o1_1, o1_2, o1_3, o1_4, o1_5⟩ := Lies.cells6 hSw.2; go_simp; (try with_reducible rfl))
          try simp only [Act.put, List.setIfInBounds_toArray, List.set_cons_zero, List.set_cons_succ]
          refine any_take 3 20 ?vk1x3 rfl rfl (by kernel_rfl) (by kernel_rfl) (by kernel_rfl) (fun _ _ _ h => h) (by rfl) ?hyk1x3 hH1 ?restk1x3
          case hyk1x3 => ((intro W hSw); obtain ⟨o0_0, o0_1, o0_2⟩ := Lies.cells3 hSw.1; obtain ⟨o1_0, o1_1, o1_2, o1_3, o1_4, o1_5⟩ := Lies.cells6 hSw.2; go_simp; (try with_reducible rfl))
          try simp only [Act.put, List.setIfInBounds_toArray, List.set_cons_zero, List.set_cons_succ]
          refine any_skip 4 21 rfl rfl (by kernel_rfl) (by kernel_rfl) (by kernel_rfl) (fun _ _ _ h => h) (by rfl) hH1 ?_
          try simp only [Act.put, List.setIfInBounds_toArray, List.set_cons_zero, List.set_cons_succ]
          refine any_skip 5 22 rfl rfl (by kernel_rfl) (by kernel_rfl) (by kernel_rfl) (fun _ _ _ h => h) (by rfl) hH1 ?_
          try simp only [Act.put, List.setIfInBounds_toArray, List.set_cons_zero, List.set_cons_succ]
          refine any_skip 6 23 rfl rfl (by kernel_rfl) (by kernel_rfl) (by kernel_rfl) (fun _ _ _ h => h) (by rfl) hH1 ?_
          try simp only [Act.put, List.setIfInBounds_toArray, List.set_cons_zero, List.set_cons_succ]
          refine any_skip 7 24 rfl rfl (by kernel_rfl) (by kernel_rfl) (by kernel_rfl) (fun _ _ _ h => h) (by rfl) hH1 ?_
          try simp only [Act.put, List.setIfInBounds_toArray, List.set_cons_zero, List.set_cons_succ]
          refine any_skip 8 25 rfl rfl (by kernel_rfl) (by kernel_rfl) (by kernel_rfl) (fun _ _ _ h => h) (by rfl) hH1 ?_
          try simp only [Act.put, List.setIfInBounds_toArray, List.set_cons_zero, List.set_cons_succ]
          refine any_take 9 26 ?vk1x9 rfl rfl (by kernel_rfl) (by kernel_rfl) (by kernel_rfl) (fun _ _ _ h => h) (by rfl) ?hyk1x9 hH1 ?restk1x9
          case hyk1x9 => ((intro W hSw); obtain ⟨o0_0, o0_1, o0_2⟩ := Lies.cells3 hSw.1; obtain ⟨o1_0, o1_1, o1_2, o1_3, o1_4, o1_5⟩ := Lies.cells6 hSw.2; go_simp; (try with_reducible rfl))
          try simp only [Act.put, List.setIfInBounds_toArray, List.set_cons_zero, List.set_cons_succ]
          clear hH1
          refine wpAnyH_done (by kernel_rfl) ?_ _
          refine NoPanic.normal ?_
          go_wp2
          go_ret
          exact ⟨ret_int (by rw [chkC_bad HBAD.out]; rfl), BX_1.out⟩
        · rw [hv] at CV
          have HPL2 := Lib.hid (HPL.out hv)
          by_cases hlt2 : pk < (T j).k
          · have HNEXT : Hid (upTo T (j + 1)) := Lib.hid (fun i hi => by
              by_cases e : i = j
              · rw [e]; exact ⟨hv, (HPL2.out).1 hlt2⟩
              · exact HUP.out i (by omega))
            rw [cmpI_lt hlt2] at CC
            clear hv hlt2 HPL HPL2
            go_wp2_with fail
            clear k0 k1 k2 f0 f1 f2
            refine wp_region_noPanic ?_
            refine wp_region_held_drew (S := fun W => Lies W (w.heap.size + 1) 204 #[.int .u32 (po : Int), .int .i64 ps, .bool pu] ∧ Lies W wr.heap.size 130 #[.int .u32 (xo : Int), .int .i64 xs, .bool xu, .slice A1 n1 c1, .int .i64 xc, .slice A2 n2 c2]) (by kernel_rfl) ⟨LY.out, LX.out⟩ (fun hH0 => ?_)
            refine any_take 0 17 ?vk2x0 rfl rfl (by kernel_rfl) (by kernel_rfl) (by kernel_rfl) (fun _ _ _ h => h) (by rfl) ?hyk2x0 hH0 ?restk2x0
            case hyk2x0 => ((intro W hSw); obtain ⟨o0_0, o0_1, o0_2⟩ := Lies.cells3 hSw.1; obtain ⟨o1_0, o1_1, o1_2, o1_3, o1_4, o1_5⟩ := Lies.cells6 hSw.2; go_simp; (try with_reducible rfl))
            try simp only [Act.put, List.setIfInBounds_toArray, List.set_cons_zero, List.set_cons_succ]
            refine wpAnyH_ready (rs := [1]) (by kernel_rfl) (by simp) ?_
            refine AllReadyH.cons rfl (fun K hK => ?_) AllReadyH.nil
            go_simp
            go_at_call 125
            with_reducible refine (CV.out _).mono ?_
            rintro x w1 ⟨rfl, hb⟩
            have LY_1 := Lib.hid (Lies.below (w := (wr.alloc (.cells #[.int .u32 (xo : Int), .int .i64 xs, .bool xu, .slice A1 n1 c1, .int .i64 xc, .slice A2 n2 c2] 130)).drew) LY.out hb (Lies.lt LY.out))
            have LX_1 := Lib.hid (Lies.below (w := (wr.alloc (.cells #[.int .u32 (xo : Int), .int .i64 xs, .bool xu, .slice A1 n1 c1, .int .i64 xc, .slice A2 n2 c2] 130)).drew) LX.out hb (Lies.lt LX.out))
            have BX_1 := Lib.hid (BX.out.drew.trans (hb.mono BX.out.size))
            refine hK.out _ _ (⟨LY_1.out, LX_1.out⟩) (fun hH1 => ?_)
            clear hK K hH0 hb
            try simp only [Act.put, List.setIfInBounds_toArray, List.set_cons_zero, List.set_cons_succ]
            refine any_take 2 19 ?vk2x2 rfl rfl (by kernel_rfl) (by kernel_rfl) (by kernel_rfl) (fun _ _ _ h => h) (by rfl) ?hyk2x2 hH1 ?restk2x2
            case hyk2x2 => ((intro W hSw); obtain ⟨o0_0, o0_1, o0_2⟩ := Lies.cells3 hSw.1; obtain ⟨o1_0, o1_1, o1_2, o1_3, o1_4, o1_5⟩ := Lies.cells6 hSw.2; go_simp; (try with_reducible rfl))
            try simp only [Act.put, List.setIfInBounds_toArray, List.set_cons_zero, List.set_cons_succ]
            refine any_take 3 20 ?vk2x3 rfl rfl (by kernel_rfl) (by kernel_rfl) (by kernel_rfl) (fun _ _ _ h => h) (by rfl) ?hyk2x3 hH1 ?restk2x3
            case hyk2x3 => ((intro W hSw); obtain ⟨o0_0, o0_1, o0_2⟩ := Lies.cells3 hSw.1; obtain ⟨o1_0, o1_1, o1_2, o1_3, o1_4, o1_5⟩ := Lies.cells6 hSw.2; go_simp; (try with_reducible rfl))
            try simp only [Act.put, List.setIfInBounds_toArray, List.set_cons_zero, List.set_cons_succ]
            refine any_take 4 21 ?vk2x4 rfl rfl (by kernel_rfl) (by kernel_rfl) (by kernel_rfl) (fun _ _ _ h => h) (by rfl) ?hyk2x4 hH1 ?restk2x4
            case hyk2x4 => ((intro W hSw); obtain ⟨o0_0, o0_1, o0_2⟩ := Lies.cells3 hSw.1; obtain ⟨o1_0, o1_1, o1_2, o1_3, o1_4, o1_5⟩ := Lies.cells6 hSw.2; go_simp; (try with_reducible rfl))
            try simp only [Act.put, List.setIfInBounds_toArray, List.set_cons_zero, List.set_cons_succ]
            refine any_take 5 22 ?vk2x5 rfl rfl (by kernel_rfl) (by kernel_rfl) (by kernel_rfl) (fun _ _ _ h => h) (by rfl) ?hyk2x5 hH1 ?restk2x5
            case hyk2x5 => ((intro W hSw); obtain ⟨o0_0, o0_1, o0_2⟩ := Lies.cells3 hSw.1; obtain ⟨o1_0, o1_1, o1_2, o1_3, o1_4, o1_5⟩ := Lies.cells6 hSw.2; go_simp; (try with_reducible rfl))
            try simp only [Act.put, List.setIfInBounds_toArray, List.set_cons_zero, List.set_cons_succ]
            refine wpAnyH_ready (rs := [6]) (by kernel_rfl) (by simp) ?_
            refine AllReadyH.cons rfl (fun K hK => ?_) AllReadyH.nil
            go_simp
            go_at_call 127
            with_reducible refine (CK.out _).mono ?_
            rintro x w2 ⟨rfl, hb⟩
            have LY_2 := Lib.hid (Lies.below (w := w1) LY_1.out hb (Lies.lt LY_1.out))
            have LX_2 := Lib.hid (Lies.below (w := w1) LX_1.out hb (Lies.lt LX_1.out))
            have BX_2 := Lib.hid (BX_1.out.trans (hb.mono BX_1.out.size))
            refine hK.out _ _ (⟨LY_2.out, LX_2.out⟩) (fun hH2 => ?_)
            clear hK K hH1 hb
            try simp only [Act.put, List.setIfInBounds_toArray, List.set_cons_zero, List.set_cons_succ]
            refine wpAnyH_ready (rs := [7]) (by kernel_rfl) (by simp) ?_
            refine AllReadyH.cons rfl (fun K hK => ?_) AllReadyH.nil
            go_simp
            go_at_call 126
            with_reducible refine (CC.out _).mono ?_
            rintro x w3 ⟨rfl, hb⟩
            have LY_3 := Lib.hid (Lies.below (w := w2) LY_2.out hb (Lies.lt LY_2.out))
            have LX_3 := Lib.hid (Lies.below (w := w2) LX_2.out hb (Lies.lt LX_2.out))
            have BX_3 := Lib.hid (BX_2.out.trans (hb.mono BX_2.out.size))
            refine hK.out _ _ (⟨LY_3.out, LX_3.out⟩) (fun hH3 => ?_)
            clear hK K hH2 hb
            try simp only [Act.put, List.setIfInBounds_toArray, List.set_cons_zero, List.set_cons_succ]
            refine any_take 8 25 ?vk2x8 rfl rfl (by kernel_rfl) (by kernel_rfl) (by kernel_rfl) (fun _ _ _ h => h) (by rfl) ?hyk2x8 hH3 ?restk2x8
            case hyk2x8 => ((intro W hSw); obtain ⟨o0_0, o0_1, o0_2⟩ := Lies.cells3 hSw.1; obtain ⟨o1_0, o1_1, o1_2, o1_3, o1_4, o1_5⟩ := Lies.cells6 hSw.2; go_simp; (try with_reducible rfl))
            try simp only [Act.put, List.setIfInBounds_toArray, List.set_cons_zero, List.set_cons_succ]
            refine any_take 9 26 ?vk2x9 rfl rfl (by kernel_rfl) (by kernel_rfl) (by kernel_rfl) (fun _ _ _ h => h) (by rfl) ?hyk2x9 hH3 ?restk2x9
            case hyk2x9 => ((intro W hSw); obtain ⟨o0_0, o0_1, o0_2⟩ := Lies.cells3 hSw.1; obtain ⟨o1_0, o1_1, o1_2, o1_3, o1_4, o1_5⟩ := Lies.cells6 hSw.2; go_simp; (try with_reducible rfl))
            try simp only [Act.put, List.setIfInBounds_toArray, List.set_cons_zero, List.set_cons_succ]
            clear hH3
            refine wpAnyH_done (by kernel_rfl) ?_ _
            refine NoPanic.normal ?_
            obtain ⟨c0_0, c0_1, c0_2⟩ := LY_3.out.cells3
            obtain ⟨cf0_0, cf0_1, cf0_2⟩ := LY_3.out.free3
            obtain ⟨c1_0, c1_1, c1_2, c1_3, c1_4, c1_5⟩ := LX_3.out.cells6
            obtain ⟨cf1_0, cf1_1, cf1_2, cf1_3, cf1_4, cf1_5⟩ := LX_3.out.free6
            go_wp2_with fail
            with_reducible refine (CK.out _).mono ?_
            rintro x w4 ⟨rfl, hb⟩
            have LY4 := Lib.hid (LY_3.out.below hb LY_3.out.lt)
            have BX4 := Lib.hid (BX_3.out.trans (hb.mono BX_3.out.size))
            clear hb c0_0 c0_1 c0_2 cf0_0 cf0_1 cf0_2 c1_0 c1_1 c1_2 c1_3 c1_4 c1_5 cf1_0 cf1_1 cf1_2 cf1_3 cf1_4 cf1_5
            obtain ⟨k0, k1, k2⟩ := LY4.out.cells3
            obtain ⟨f0, f1, f2⟩ := LY4.out.free3
            go_wp2
            go_roundw
            case rel =>
              refine ⟨j + 1, by omega, by go_num, HNEXT.out, ?_, ((BX4.out.setCell (p := ⟨w.heap.size + 1, 0, none⟩) (Nat.le_succ _) _).setCell (p := ⟨w.heap.size + 1, 1, none⟩) (Nat.le_succ _) _).setCell (p := ⟨w.heap.size + 1, 2, none⟩) (Nat.le_succ _) _⟩
              rw [HPE.out.1, HPE.out.2.1, HPE.out.2.2]
              exact ((LY4.out.put 0 _).put 1 _).put 2 _
            case measure => simp [intOf]; omega
          · have HBAD : Hid (okB n T = false) := Lib.hid (okB_bad j hlt (by
              rw [Bool.eq_false_iff]; intro hg
              exact hlt2 ((HPL2.out).2 ((goodAt_iff T j).1 hg).2)))
            obtain ⟨cq, hcq, hcq2⟩ : ∃ cq : Int, 0 ≤ cq ∧ cmpI pk (T j).k = cq := ⟨_, by unfold cmpI; rw [if_neg hlt2]; split <;> omega, rfl⟩
            rw [hcq2] at CC
            have dq : decide (0 ≤ cq) = true := decide_eq_true hcq
            clear hv hlt2 HPL HPL2 hcq2 hcq
            go_wp2_with fail
            clear k0 k1 k2 f0 f1 f2
            refine wp_region_noPanic ?_
            refine wp_region_held_drew (S := fun W => Lies W (w.heap.size + 1) 204 #[.int .u32 (po : Int), .int .i64 ps, .bool pu] ∧ Lies W wr.heap.size 130 #[.int .u32 (xo : Int), .int .i64 xs, .bool xu, .slice A1 n1 c1, .int .i64 xc, .slice A2 n2 c2]) (by kernel_rfl) ⟨LY.out, LX.out⟩ (fun hH0 => ?_)
            refine any_take 0 17 ?vk3x0 rfl rfl (by kernel_rfl) (by kernel_rfl) (by kernel_rfl) (fun _ _ _ h => h) (by rfl) ?hyk3x0 hH0 ?restk3x0
            case hyk3x0 => ((intro W hSw); obtain ⟨o0_0, o0_1, o0_2⟩ := Lies.cells3 hSw.1; obtain ⟨o1_0, o1_1, o1_2, o1_3, o1_4, o1_5⟩ := Lies.cells6 hSw.2; go_simp; (try with_reducible rfl))
            try simp only [Act.put, List.setIfInBounds_toArray, List.set_cons_zero, List.set_cons_succ]
            refine wpAnyH_ready (rs := [1]) (by kernel_rfl) (by simp) ?_
            refine AllReadyH.cons rfl (fun K hK => ?_) AllReadyH.nil
            go_simp
            go_at_call 125
            with_reducible refine (CV.out _).mono ?_
            rintro x w1 ⟨rfl, hb⟩
            have LY_1 := Lib.hid (Lies.below (w := (wr.alloc (.cells #[.int .u32 (xo : Int), .int .i64 xs, .bool xu, .slice A1 n1 c1, .int .i64 xc, .slice A2 n2 c2] 130)).drew) LY.out hb (Lies.lt LY.out))
            have LX_1 := Lib.hid (Lies.below (w := (wr.alloc (.cells #[.int .u32 (xo : Int), .int .i64 xs, .bool xu, .slice A1 n1 c1, .int .i64 xc, .slice A2 n2 c2] 130)).drew) LX.out hb (Lies.lt LX.out))
            have BX_1 := Lib.hid (BX.out.drew.trans (hb.mono BX.out.size))
            refine hK.out _ _ (⟨LY_1.out, LX_1.out⟩) (fun hH1 => ?_)
            clear hK K hH0 hb
            try simp only [Act.put, List.setIfInBounds_toArray, List.set_cons_zero, List.set_cons_succ]
            refine any_take 2 19 ?vk3x2 rfl rfl (by kernel_rfl) (by kernel_rfl) (by kernel_rfl) (fun _ _ _ h => h) (by rfl) ?hyk3x2 hH1 ?restk3x2
            case hyk3x2 => ((intro W hSw); obtain ⟨o0_0, o0_1, o0_2⟩ := Lies.cells3 hSw.1; obtain ⟨o1_0, o1_1, o1_2, o1_3, o1_4, o1_5⟩ := Lies.cells6 hSw.2; go_simp; (try with_reducible rfl))
            try simp only [Act.put, List.setIfInBounds_toArray, List.set_cons_zero, List.set_cons_succ]
            refine any_take 3 20 ?vk3x3 rfl rfl (by kernel_rfl) (by kernel_rfl) (by kernel_rfl) (fun _ _ _ h => h) (by rfl) ?hyk3x3 hH1 ?restk3x3
            case hyk3x3 => ((intro W hSw); obtain ⟨o0_0, o0_1, o0_2⟩ := Lies.cells3 hSw.1; obtain ⟨o1_0, o1_1, o1_2, o1_3, o1_4, o1_5⟩ := Lies.cells6 hSw.2; go_simp; (try with_reducible rfl))
            try simp only [Act.put, List.setIfInBounds_toArray, List.set_cons_zero, List.set_cons_succ]
            refine any_take 4 21 ?vk3x4 rfl rfl (by kernel_rfl) (by kernel_rfl) (by kernel_rfl) (fun _ _ _ h => h) (by rfl) ?hyk3x4 hH1 ?restk3x4
            case hyk3x4 => ((intro W hSw); obtain ⟨o0_0, o0_1, o0_2⟩ := Lies.cells3 hSw.1; obtain ⟨o1_0, o1_1, o1_2, o1_3, o1_4, o1_5⟩ := Lies.cells6 hSw.2; go_simp; (try with_reducible rfl))
            try simp only [Act.put, List.setIfInBounds_toArray, List.set_cons_zero, List.set_cons_succ]
            refine any_take 5 22 ?vk3x5 rfl rfl (by kernel_rfl) (by kernel_rfl) (by kernel_rfl) (fun _ _ _ h => h) (by rfl) ?hyk3x5 hH1 ?restk3x5
            case hyk3x5 => ((intro W hSw); obtain ⟨o0_0, o0_1, o0_2⟩ := Lies.cells3 hSw.1; obtain ⟨o1_0, o1_1, o1_2, o1_3, o1_4, o1_5⟩ := Lies.cells6 hSw.2; go_simp; (try with_reducible rfl))
            try simp only [Act.put, List.setIfInBounds_toArray, List.set_cons_zero, List.set_cons_succ]
            refine wpAnyH_ready (rs := [6]) (by kernel_rfl) (by simp) ?_
            refine AllReadyH.cons rfl (fun K hK => ?_) AllReadyH.nil
            go_simp
            go_at_call 127
            with_reducible refine (CK.out _).mono ?_
            rintro x w2 ⟨rfl, hb⟩
            have LY_2 := Lib.hid (Lies.below (w := w1) LY_1.out hb (Lies.lt LY_1.out))
            have LX_2 := Lib.hid (Lies.below (w := w1) LX_1.out hb (Lies.lt LX_1.out))
            have BX_2 := Lib.hid (BX_1.out.trans (hb.mono BX_1.out.size))
            refine hK.out _ _ (⟨LY_2.out, LX_2.out⟩) (fun hH2 => ?_)
            clear hK K hH1 hb
            try simp only [Act.put, List.setIfInBounds_toArray, List.set_cons_zero, List.set_cons_succ]
            refine wpAnyH_ready (rs := [7]) (by kernel_rfl) (by simp) ?_
            refine AllReadyH.cons rfl (fun K hK => ?_) AllReadyH.nil
            go_simp
            go_at_call 126
            with_reducible refine (CC.out _).mono ?_
            rintro x w3 ⟨rfl, hb⟩
            have LY_3 := Lib.hid (Lies.below (w := w2) LY_2.out hb (Lies.lt LY_2.out))
            have LX_3 := Lib.hid (Lies.below (w := w2) LX_2.out hb (Lies.lt LX_2.out))
            have BX_3 := Lib.hid (BX_2.out.trans (hb.mono BX_2.out.size))
            refine hK.out _ _ (⟨LY_3.out, LX_3.out⟩) (fun hH3 => ?_)
            clear hK K hH2 hb
            try simp only [Act.put, List.setIfInBounds_toArray, List.set_cons_zero, List.set_cons_succ]
            refine any_take 8 25 ?vk3x8 rfl rfl (by kernel_rfl) (by kernel_rfl) (by kernel_rfl) (fun _ _ _ h => h) (by rfl) ?hyk3x8 hH3 ?restk3x8
            case hyk3x8 => ((intro W hSw); obtain ⟨o0_0, o0_1, o0_2⟩ := Lies.cells3 hSw.1; obtain ⟨o1_0, o1_1, o1_2, o1_3, o1_4, o1_5⟩ := Lies.cells6 hSw.2; go_simp; (try with_reducible rfl))
            try simp only [Act.put, List.setIfInBounds_toArray, List.set_cons_zero, List.set_cons_succ]
            refine any_take 9 26 ?vk3x9 rfl rfl (by kernel_rfl) (by kernel_rfl) (by kernel_rfl) (fun _ _ _ h => h) (by rfl) ?hyk3x9 hH3 ?restk3x9
            case hyk3x9 => ((intro W hSw); obtain ⟨o0_0, o0_1, o0_2⟩ := Lies.cells3 hSw.1; obtain ⟨o1_0, o1_1, o1_2, o1_3, o1_4, o1_5⟩ := Lies.cells6 hSw.2; go_simp; (try with_reducible rfl))
            try simp only [Act.put, List.setIfInBounds_toArray, List.set_cons_zero, List.set_cons_succ]
            clear hH3
            refine wpAnyH_done (by kernel_rfl) ?_ _
            refine NoPanic.normal ?_
            go_wp2
            go_ret
            exact ⟨ret_int (by rw [chkC_bad HBAD.out]; rfl), BX_3.out⟩
      · have hjn : j = n := by omega
        subst hjn
        have HOK : Hid (okB j T = true) := Lib.hid ((okB_iff j T).2 ⟨hn2, HUP.out⟩)
        go_wp2
        go_ret
        exact ⟨ret_int (by rw [chkC_ok HOK.out]; rfl), BB.out⟩

end Go.Proofs.YtpbclmnhkmcknaaGreat.Fe
