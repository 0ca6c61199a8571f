/-
  The contract of the document's fields: kinds 3.
-/
import Derived.Test.YtccpmalefdnhdaaFldA
namespace Go.Proofs.Ytccpmalefdnhdaa
open Go.RowKit
set_option linter.unusedSimpArgs false
set_option linter.unusedVariables false

set_option maxRecDepth 100000 in
set_option maxHeartbeats 4000000 in
theorem flds3_3_f (e : Entry) (A1 A2 : Option Addr) (c1 c2 : Nat) (w : World) (hV : EntV w e A1 A2 c1 c2) (hkd : e.kind = 3) (hun : e.undo = false) (ho : 1 ≤ e.order) (h1 : 0 ≤ e.step) (h2 : e.step ≤ 15) (h3 : ¬ 1 ≤ e.tri) :
    Calls Try.prog 37 #[.agg (evs e (.slice A1 e.key.length c1) (.slice A2 e.data.length c2))] w (FldsPost e (.slice A1 e.key.length c1) (.slice A2 e.data.length c2) w) := by
  have hokf : okF e = false := by unfold okF; rw [hkd]; simp; omega
  unfold FldsPost
  rw [hokf]
  obtain ⟨n1, h_n1⟩ : ∃ q, e.key.length = q := ⟨_, rfl⟩
  obtain ⟨n2, h_n2⟩ : ∃ q, e.data.length = q := ⟨_, rfl⟩
  obtain ⟨od, h_od⟩ : ∃ q, e.order = q := ⟨_, rfl⟩
  obtain ⟨st, h_st⟩ : ∃ q, e.step = q := ⟨_, rfl⟩
  obtain ⟨tr, h_tr⟩ : ∃ q, e.tri = q := ⟨_, rfl⟩
  obtain ⟨cd, h_cd⟩ : ∃ q, e.code = q := ⟨_, rfl⟩
  obtain ⟨mk, h_mk⟩ : ∃ q, e.mark = q := ⟨_, rfl⟩
  obtain ⟨ls, h_ls⟩ : ∃ q, e.lsn = q := ⟨_, rfl⟩
  have hls := hV.b.lsn
  have hod := hV.b.order
  have hmk := hV.b.mark
  have hepb := hV.b.epoch
  obtain ⟨ep, h_ep⟩ : ∃ q, e.epoch = q := ⟨_, rfl⟩
  rw [h_ls] at hls
  rw [h_od] at hod
  rw [h_mk] at hmk
  rw [h_ep] at hepb
  rw [h_od] at ho
  rw [h_st] at h1
  rw [h_st] at h2
  rw [h_tr] at h3
  unfold evs
  rw [h_n1, h_n2, h_ls, h_ep, h_od, h_st, h_tr, h_cd, h_mk, hun, hkd]
  have bf0_0 : decide (1 ≤ od) = true := by first | (rw [decide_eq_true_iff]; omega) | (rw [decide_eq_false_iff_not]; omega)
  have bf0_1 : decide ((1 : Int) ≤ ((od : Nat) : Int)) = true := by first | (rw [decide_eq_true_iff]; omega) | (rw [decide_eq_false_iff_not]; omega)
  clear hV hokf h_n1 h_n2 h_ls h_ep h_od h_st h_tr h_cd h_mk hun hkd
  go_enter Try.func37, Try.ntmps37
  have hs3 : (((w.alloc (.cells #[.int .i64 3, .int .u64 (ls : Nat), .int .u32 (ep : Nat), .int .u32 (od : Nat), .int .i64 st, .bool false, .int .i64 tr, .int .i64 cd, .int .u64 (mk : Nat), .slice A1 n1 c1, .slice A2 n2 c2] 26)).alloc (.cells #[.int .i64 1, .int .u64 3, .slice none 0 0, .int .i64 8, .int .u64 (ls : Nat), .slice none 0 0, .int .i64 4, .int .u64 (ep : Nat), .slice none 0 0] 92)).alloc (.cells #[.int .i64 4, .int .u64 (od : Nat), .slice none 0 0] 92)).heap.size = w.heap.size + 1 + 1 + 1 := by simp
  have hfo : ∀ o : Obj, FRow ((((w.alloc (.cells #[.int .i64 3, .int .u64 (ls : Nat), .int .u32 (ep : Nat), .int .u32 (od : Nat), .int .i64 st, .bool false, .int .i64 tr, .int .i64 cd, .int .u64 (mk : Nat), .slice A1 n1 c1, .slice A2 n2 c2] 26)).alloc (.cells #[.int .i64 1, .int .u64 3, .slice none 0 0, .int .i64 8, .int .u64 (ls : Nat), .slice none 0 0, .int .i64 4, .int .u64 (ep : Nat), .slice none 0 0] 92)).alloc (.cells #[.int .i64 4, .int .u64 (od : Nat), .slice none 0 0] 92)).alloc o) w.heap.size (.slice (some ⟨w.heap.size + 1, 0, none⟩) 3 3) 3 #[.int .i64 1, .int .u64 3, .slice none 0 0, .int .i64 8, .int .u64 (ls : Nat), .slice none 0 0, .int .i64 4, .int .u64 (ep : Nat), .slice none 0 0].toList := fun o => frow_made (((Lies.made2 w (.cells #[.int .i64 3, .int .u64 (ls : Nat), .int .u32 (ep : Nat), .int .u32 (od : Nat), .int .i64 st, .bool false, .int .i64 tr, .int .i64 cd, .int .u64 (mk : Nat), .slice A1 n1 c1, .slice A2 n2 c2] 26) 92 #[.int .i64 1, .int .u64 3, .slice none 0 0, .int .i64 8, .int .u64 (ls : Nat), .slice none 0 0, .int .i64 4, .int .u64 (ep : Nat), .slice none 0 0]).alloc (.cells #[.int .i64 4, .int .u64 (od : Nat), .slice none 0 0] 92)).alloc o) (by omega) rfl (by omega)
  have HFO := Lib.hid hfo
  have hgl : ∀ C : Array Value, Lies ((((w.alloc (.cells #[.int .i64 3, .int .u64 (ls : Nat), .int .u32 (ep : Nat), .int .u32 (od : Nat), .int .i64 st, .bool false, .int .i64 tr, .int .i64 cd, .int .u64 (mk : Nat), .slice A1 n1 c1, .slice A2 n2 c2] 26)).alloc (.cells #[.int .i64 1, .int .u64 3, .slice none 0 0, .int .i64 8, .int .u64 (ls : Nat), .slice none 0 0, .int .i64 4, .int .u64 (ep : Nat), .slice none 0 0] 92)).alloc (.cells #[.int .i64 4, .int .u64 (od : Nat), .slice none 0 0] 92)).alloc (.cells C 92)) (w.heap.size + 1 + 1 + 1) 92 C := fun C => by rw [← hs3]; exact Lies.made _ 92 C
  have HGL := Lib.hid hgl
  have hle : ∀ o : Obj, Lies ((((w.alloc (.cells #[.int .i64 3, .int .u64 (ls : Nat), .int .u32 (ep : Nat), .int .u32 (od : Nat), .int .i64 st, .bool false, .int .i64 tr, .int .i64 cd, .int .u64 (mk : Nat), .slice A1 n1 c1, .slice A2 n2 c2] 26)).alloc (.cells #[.int .i64 1, .int .u64 3, .slice none 0 0, .int .i64 8, .int .u64 (ls : Nat), .slice none 0 0, .int .i64 4, .int .u64 (ep : Nat), .slice none 0 0] 92)).alloc (.cells #[.int .i64 4, .int .u64 (od : Nat), .slice none 0 0] 92)).alloc o) w.heap.size 26 #[.int .i64 3, .int .u64 (ls : Nat), .int .u32 (ep : Nat), .int .u32 (od : Nat), .int .i64 st, .bool false, .int .i64 tr, .int .i64 cd, .int .u64 (mk : Nat), .slice A1 n1 c1, .slice A2 n2 c2] := fun o => (((Lies.made w 26 _).alloc _).alloc _).alloc o
  have HLE := Lib.hid hle
  have hbe : ∀ o : Obj, Below w.heap.size w ((((w.alloc (.cells #[.int .i64 3, .int .u64 (ls : Nat), .int .u32 (ep : Nat), .int .u32 (od : Nat), .int .i64 st, .bool false, .int .i64 tr, .int .i64 cd, .int .u64 (mk : Nat), .slice A1 n1 c1, .slice A2 n2 c2] 26)).alloc (.cells #[.int .i64 1, .int .u64 3, .slice none 0 0, .int .i64 8, .int .u64 (ls : Nat), .slice none 0 0, .int .i64 4, .int .u64 (ep : Nat), .slice none 0 0] 92)).alloc (.cells #[.int .i64 4, .int .u64 (od : Nat), .slice none 0 0] 92)).alloc o) := fun o => ((((Below.refl w.heap.size w).alloc (Nat.le_refl _) _).alloc (by simp) _).alloc (by simp; omega) _).alloc (by simp; omega) o
  have HBE := Lib.hid hbe
  clear hfo hgl hle hbe
  have ce : ∀ W : World, Lies W w.heap.size 26 #[.int .i64 3, .int .u64 (ls : Nat), .int .u32 (ep : Nat), .int .u32 (od : Nat), .int .i64 st, .bool false, .int .i64 tr, .int .i64 cd, .int .u64 (mk : Nat), .slice A1 n1 c1, .slice A2 n2 c2] → W.cell? ⟨w.heap.size, 0, none⟩ = some (.int .i64 3) ∧ W.cell? ⟨w.heap.size, 1, none⟩ = some (.int .u64 (ls : Nat)) ∧ W.cell? ⟨w.heap.size, 2, none⟩ = some (.int .u32 (ep : Nat)) ∧ W.cell? ⟨w.heap.size, 3, none⟩ = some (.int .u32 (od : Nat)) ∧ W.cell? ⟨w.heap.size, 4, none⟩ = some (.int .i64 st) ∧ W.cell? ⟨w.heap.size, 5, none⟩ = some (.bool false) ∧ W.cell? ⟨w.heap.size, 6, none⟩ = some (.int .i64 tr) ∧ W.cell? ⟨w.heap.size, 7, none⟩ = some (.int .i64 cd) ∧ W.cell? ⟨w.heap.size, 8, none⟩ = some (.int .u64 (mk : Nat)) ∧ W.cell? ⟨w.heap.size, 9, none⟩ = some (.slice A1 n1 c1) ∧ W.cell? ⟨w.heap.size, 10, none⟩ = some (.slice A2 n2 c2) := fun W h => ⟨h.cell 0, h.cell 1, h.cell 2, h.cell 3, h.cell 4, h.cell 5, h.cell 6, h.cell 7, h.cell 8, h.cell 9, h.cell 10⟩
  have CE := Lib.hid ce
  clear ce
  go_wp2_with (first
    | ((with_reducible refine wpl_appendF (some 81) _ _ _ (.tmp 68) (.tmp 80) w.heap.size (.slice (some ⟨w.heap.size + 1, 0, none⟩) 3 3) 3 _ (w.heap.size + 1 + 1 + 1) 4 _ ?hs ?hx (HFO.out _) (HGL.out _) ?hC ?ho ?hm ?hz ?_); (case hs => rfl); (case hx => rfl); (case hC => rfl); (case ho => simp [Value.oneCell']); (case hm => omega); (case hz => (exact (HBE.out _).size)); (intro v1 w1 ho hgr); (have HF1 := Lib.hid ho); (have hl1 := Lies.grown (HLE.out _) hgr (frow_ne (HFO.out (.cells #[] 92)) (HLE.out (.cells #[] 92)) (by decide))); (have HL1 := Lib.hid hl1); (have BB1 := Lib.hid ((HBE.out _).grown hgr (HBE.out _).size (fun q hq => frow_block (HFO.out (.cells #[] 92)) q hq))); (obtain ⟨e0, e1, e2, e3, e4, e5, e6, e7, e8, e9, e10⟩ := CE.out w1 hl1); (clear ho hgr hl1)))
  go_ret2
  first | exact ⟨_, rfl, BB1.out, fun h => by cases h⟩ | exact ⟨⟨_, rfl⟩, BB1.out⟩ | exact BB1.out

set_option maxRecDepth 100000 in
set_option maxHeartbeats 4000000 in
theorem flds3_3_t (e : Entry) (A1 A2 : Option Addr) (c1 c2 : Nat) (w : World) (hV : EntV w e A1 A2 c1 c2) (hkd : e.kind = 3) (hun : e.undo = true) (ho : 1 ≤ e.order) (h1 : 0 ≤ e.step) (h2 : e.step ≤ 15) (h3 : ¬ 1 ≤ e.tri) :
    Calls Try.prog 37 #[.agg (evs e (.slice A1 e.key.length c1) (.slice A2 e.data.length c2))] w (FldsPost e (.slice A1 e.key.length c1) (.slice A2 e.data.length c2) w) := by
  have hokf : okF e = false := by unfold okF; rw [hkd]; simp; omega
  unfold FldsPost
  rw [hokf]
  obtain ⟨n1, h_n1⟩ : ∃ q, e.key.length = q := ⟨_, rfl⟩
  obtain ⟨n2, h_n2⟩ : ∃ q, e.data.length = q := ⟨_, rfl⟩
  obtain ⟨od, h_od⟩ : ∃ q, e.order = q := ⟨_, rfl⟩
  obtain ⟨st, h_st⟩ : ∃ q, e.step = q := ⟨_, rfl⟩
  obtain ⟨tr, h_tr⟩ : ∃ q, e.tri = q := ⟨_, rfl⟩
  obtain ⟨cd, h_cd⟩ : ∃ q, e.code = q := ⟨_, rfl⟩
  obtain ⟨mk, h_mk⟩ : ∃ q, e.mark = q := ⟨_, rfl⟩
  obtain ⟨ls, h_ls⟩ : ∃ q, e.lsn = q := ⟨_, rfl⟩
  have hls := hV.b.lsn
  have hod := hV.b.order
  have hmk := hV.b.mark
  have hepb := hV.b.epoch
  obtain ⟨ep, h_ep⟩ : ∃ q, e.epoch = q := ⟨_, rfl⟩
  rw [h_ls] at hls
  rw [h_od] at hod
  rw [h_mk] at hmk
  rw [h_ep] at hepb
  rw [h_od] at ho
  rw [h_st] at h1
  rw [h_st] at h2
  rw [h_tr] at h3
  unfold evs
  rw [h_n1, h_n2, h_ls, h_ep, h_od, h_st, h_tr, h_cd, h_mk, hun, hkd]
  have bf0_0 : decide (1 ≤ od) = true := by first | (rw [decide_eq_true_iff]; omega) | (rw [decide_eq_false_iff_not]; omega)
  have bf0_1 : decide ((1 : Int) ≤ ((od : Nat) : Int)) = true := by first | (rw [decide_eq_true_iff]; omega) | (rw [decide_eq_false_iff_not]; omega)
  clear hV hokf h_n1 h_n2 h_ls h_ep h_od h_st h_tr h_cd h_mk hun hkd
  go_enter Try.func37, Try.ntmps37
  have hs3 : (((w.alloc (.cells #[.int .i64 3, .int .u64 (ls : Nat), .int .u32 (ep : Nat), .int .u32 (od : Nat), .int .i64 st, .bool true, .int .i64 tr, .int .i64 cd, .int .u64 (mk : Nat), .slice A1 n1 c1, .slice A2 n2 c2] 26)).alloc (.cells #[.int .i64 1, .int .u64 3, .slice none 0 0, .int .i64 8, .int .u64 (ls : Nat), .slice none 0 0, .int .i64 4, .int .u64 (ep : Nat), .slice none 0 0] 92)).alloc (.cells #[.int .i64 4, .int .u64 (od : Nat), .slice none 0 0] 92)).heap.size = w.heap.size + 1 + 1 + 1 := by simp
  have hfo : ∀ o : Obj, FRow ((((w.alloc (.cells #[.int .i64 3, .int .u64 (ls : Nat), .int .u32 (ep : Nat), .int .u32 (od : Nat), .int .i64 st, .bool true, .int .i64 tr, .int .i64 cd, .int .u64 (mk : Nat), .slice A1 n1 c1, .slice A2 n2 c2] 26)).alloc (.cells #[.int .i64 1, .int .u64 3, .slice none 0 0, .int .i64 8, .int .u64 (ls : Nat), .slice none 0 0, .int .i64 4, .int .u64 (ep : Nat), .slice none 0 0] 92)).alloc (.cells #[.int .i64 4, .int .u64 (od : Nat), .slice none 0 0] 92)).alloc o) w.heap.size (.slice (some ⟨w.heap.size + 1, 0, none⟩) 3 3) 3 #[.int .i64 1, .int .u64 3, .slice none 0 0, .int .i64 8, .int .u64 (ls : Nat), .slice none 0 0, .int .i64 4, .int .u64 (ep : Nat), .slice none 0 0].toList := fun o => frow_made (((Lies.made2 w (.cells #[.int .i64 3, .int .u64 (ls : Nat), .int .u32 (ep : Nat), .int .u32 (od : Nat), .int .i64 st, .bool true, .int .i64 tr, .int .i64 cd, .int .u64 (mk : Nat), .slice A1 n1 c1, .slice A2 n2 c2] 26) 92 #[.int .i64 1, .int .u64 3, .slice none 0 0, .int .i64 8, .int .u64 (ls : Nat), .slice none 0 0, .int .i64 4, .int .u64 (ep : Nat), .slice none 0 0]).alloc (.cells #[.int .i64 4, .int .u64 (od : Nat), .slice none 0 0] 92)).alloc o) (by omega) rfl (by omega)
  have HFO := Lib.hid hfo
  have hgl : ∀ C : Array Value, Lies ((((w.alloc (.cells #[.int .i64 3, .int .u64 (ls : Nat), .int .u32 (ep : Nat), .int .u32 (od : Nat), .int .i64 st, .bool true, .int .i64 tr, .int .i64 cd, .int .u64 (mk : Nat), .slice A1 n1 c1, .slice A2 n2 c2] 26)).alloc (.cells #[.int .i64 1, .int .u64 3, .slice none 0 0, .int .i64 8, .int .u64 (ls : Nat), .slice none 0 0, .int .i64 4, .int .u64 (ep : Nat), .slice none 0 0] 92)).alloc (.cells #[.int .i64 4, .int .u64 (od : Nat), .slice none 0 0] 92)).alloc (.cells C 92)) (w.heap.size + 1 + 1 + 1) 92 C := fun C => by rw [← hs3]; exact Lies.made _ 92 C
  have HGL := Lib.hid hgl
  have hle : ∀ o : Obj, Lies ((((w.alloc (.cells #[.int .i64 3, .int .u64 (ls : Nat), .int .u32 (ep : Nat), .int .u32 (od : Nat), .int .i64 st, .bool true, .int .i64 tr, .int .i64 cd, .int .u64 (mk : Nat), .slice A1 n1 c1, .slice A2 n2 c2] 26)).alloc (.cells #[.int .i64 1, .int .u64 3, .slice none 0 0, .int .i64 8, .int .u64 (ls : Nat), .slice none 0 0, .int .i64 4, .int .u64 (ep : Nat), .slice none 0 0] 92)).alloc (.cells #[.int .i64 4, .int .u64 (od : Nat), .slice none 0 0] 92)).alloc o) w.heap.size 26 #[.int .i64 3, .int .u64 (ls : Nat), .int .u32 (ep : Nat), .int .u32 (od : Nat), .int .i64 st, .bool true, .int .i64 tr, .int .i64 cd, .int .u64 (mk : Nat), .slice A1 n1 c1, .slice A2 n2 c2] := fun o => (((Lies.made w 26 _).alloc _).alloc _).alloc o
  have HLE := Lib.hid hle
  have hbe : ∀ o : Obj, Below w.heap.size w ((((w.alloc (.cells #[.int .i64 3, .int .u64 (ls : Nat), .int .u32 (ep : Nat), .int .u32 (od : Nat), .int .i64 st, .bool true, .int .i64 tr, .int .i64 cd, .int .u64 (mk : Nat), .slice A1 n1 c1, .slice A2 n2 c2] 26)).alloc (.cells #[.int .i64 1, .int .u64 3, .slice none 0 0, .int .i64 8, .int .u64 (ls : Nat), .slice none 0 0, .int .i64 4, .int .u64 (ep : Nat), .slice none 0 0] 92)).alloc (.cells #[.int .i64 4, .int .u64 (od : Nat), .slice none 0 0] 92)).alloc o) := fun o => ((((Below.refl w.heap.size w).alloc (Nat.le_refl _) _).alloc (by simp) _).alloc (by simp; omega) _).alloc (by simp; omega) o
  have HBE := Lib.hid hbe
  clear hfo hgl hle hbe
  have ce : ∀ W : World, Lies W w.heap.size 26 #[.int .i64 3, .int .u64 (ls : Nat), .int .u32 (ep : Nat), .int .u32 (od : Nat), .int .i64 st, .bool true, .int .i64 tr, .int .i64 cd, .int .u64 (mk : Nat), .slice A1 n1 c1, .slice A2 n2 c2] → W.cell? ⟨w.heap.size, 0, none⟩ = some (.int .i64 3) ∧ W.cell? ⟨w.heap.size, 1, none⟩ = some (.int .u64 (ls : Nat)) ∧ W.cell? ⟨w.heap.size, 2, none⟩ = some (.int .u32 (ep : Nat)) ∧ W.cell? ⟨w.heap.size, 3, none⟩ = some (.int .u32 (od : Nat)) ∧ W.cell? ⟨w.heap.size, 4, none⟩ = some (.int .i64 st) ∧ W.cell? ⟨w.heap.size, 5, none⟩ = some (.bool true) ∧ W.cell? ⟨w.heap.size, 6, none⟩ = some (.int .i64 tr) ∧ W.cell? ⟨w.heap.size, 7, none⟩ = some (.int .i64 cd) ∧ W.cell? ⟨w.heap.size, 8, none⟩ = some (.int .u64 (mk : Nat)) ∧ W.cell? ⟨w.heap.size, 9, none⟩ = some (.slice A1 n1 c1) ∧ W.cell? ⟨w.heap.size, 10, none⟩ = some (.slice A2 n2 c2) := fun W h => ⟨h.cell 0, h.cell 1, h.cell 2, h.cell 3, h.cell 4, h.cell 5, h.cell 6, h.cell 7, h.cell 8, h.cell 9, h.cell 10⟩
  have CE := Lib.hid ce
  clear ce
  go_wp2_with (first
    | ((with_reducible refine wpl_appendF (some 81) _ _ _ (.tmp 68) (.tmp 80) w.heap.size (.slice (some ⟨w.heap.size + 1, 0, none⟩) 3 3) 3 _ (w.heap.size + 1 + 1 + 1) 4 _ ?hs ?hx (HFO.out _) (HGL.out _) ?hC ?ho ?hm ?hz ?_); (case hs => rfl); (case hx => rfl); (case hC => rfl); (case ho => simp [Value.oneCell']); (case hm => omega); (case hz => (exact (HBE.out _).size)); (intro v1 w1 ho hgr); (have HF1 := Lib.hid ho); (have hl1 := Lies.grown (HLE.out _) hgr (frow_ne (HFO.out (.cells #[] 92)) (HLE.out (.cells #[] 92)) (by decide))); (have HL1 := Lib.hid hl1); (have BB1 := Lib.hid ((HBE.out _).grown hgr (HBE.out _).size (fun q hq => frow_block (HFO.out (.cells #[] 92)) q hq))); (obtain ⟨e0, e1, e2, e3, e4, e5, e6, e7, e8, e9, e10⟩ := CE.out w1 hl1); (clear ho hgr hl1)))
  go_ret2
  first | exact ⟨_, rfl, BB1.out, fun h => by cases h⟩ | exact ⟨⟨_, rfl⟩, BB1.out⟩ | exact BB1.out

set_option maxRecDepth 100000 in
set_option maxHeartbeats 4000000 in
theorem flds3_4_f (e : Entry) (A1 A2 : Option Addr) (c1 c2 : Nat) (w : World) (hV : EntV w e A1 A2 c1 c2) (hkd : e.kind = 3) (hun : e.undo = false) (ho : 1 ≤ e.order) (h1 : 0 ≤ e.step) (h2 : e.step ≤ 15) (h3 : 1 ≤ e.tri) (h4 : ¬ e.tri ≤ 255) :
    Calls Try.prog 37 #[.agg (evs e (.slice A1 e.key.length c1) (.slice A2 e.data.length c2))] w (FldsPost e (.slice A1 e.key.length c1) (.slice A2 e.data.length c2) w) := by
  have hokf : okF e = false := by unfold okF; rw [hkd]; simp; omega
  unfold FldsPost
  rw [hokf]
  obtain ⟨n1, h_n1⟩ : ∃ q, e.key.length = q := ⟨_, rfl⟩
  obtain ⟨n2, h_n2⟩ : ∃ q, e.data.length = q := ⟨_, rfl⟩
  obtain ⟨od, h_od⟩ : ∃ q, e.order = q := ⟨_, rfl⟩
  obtain ⟨st, h_st⟩ : ∃ q, e.step = q := ⟨_, rfl⟩
  obtain ⟨tr, h_tr⟩ : ∃ q, e.tri = q := ⟨_, rfl⟩
  obtain ⟨cd, h_cd⟩ : ∃ q, e.code = q := ⟨_, rfl⟩
  obtain ⟨mk, h_mk⟩ : ∃ q, e.mark = q := ⟨_, rfl⟩
  obtain ⟨ls, h_ls⟩ : ∃ q, e.lsn = q := ⟨_, rfl⟩
  have hls := hV.b.lsn
  have hod := hV.b.order
  have hmk := hV.b.mark
  have hepb := hV.b.epoch
  obtain ⟨ep, h_ep⟩ : ∃ q, e.epoch = q := ⟨_, rfl⟩
  rw [h_ls] at hls
  rw [h_od] at hod
  rw [h_mk] at hmk
  rw [h_ep] at hepb
  rw [h_od] at ho
  rw [h_st] at h1
  rw [h_st] at h2
  rw [h_tr] at h3
  rw [h_tr] at h4
  unfold evs
  rw [h_n1, h_n2, h_ls, h_ep, h_od, h_st, h_tr, h_cd, h_mk, hun, hkd]
  have bf0_0 : decide (1 ≤ od) = true := by first | (rw [decide_eq_true_iff]; omega) | (rw [decide_eq_false_iff_not]; omega)
  have bf0_1 : decide ((1 : Int) ≤ ((od : Nat) : Int)) = true := by first | (rw [decide_eq_true_iff]; omega) | (rw [decide_eq_false_iff_not]; omega)
  clear hV hokf h_n1 h_n2 h_ls h_ep h_od h_st h_tr h_cd h_mk hun hkd
  go_enter Try.func37, Try.ntmps37
  have hs3 : (((w.alloc (.cells #[.int .i64 3, .int .u64 (ls : Nat), .int .u32 (ep : Nat), .int .u32 (od : Nat), .int .i64 st, .bool false, .int .i64 tr, .int .i64 cd, .int .u64 (mk : Nat), .slice A1 n1 c1, .slice A2 n2 c2] 26)).alloc (.cells #[.int .i64 1, .int .u64 3, .slice none 0 0, .int .i64 8, .int .u64 (ls : Nat), .slice none 0 0, .int .i64 4, .int .u64 (ep : Nat), .slice none 0 0] 92)).alloc (.cells #[.int .i64 4, .int .u64 (od : Nat), .slice none 0 0] 92)).heap.size = w.heap.size + 1 + 1 + 1 := by simp
  have hfo : ∀ o : Obj, FRow ((((w.alloc (.cells #[.int .i64 3, .int .u64 (ls : Nat), .int .u32 (ep : Nat), .int .u32 (od : Nat), .int .i64 st, .bool false, .int .i64 tr, .int .i64 cd, .int .u64 (mk : Nat), .slice A1 n1 c1, .slice A2 n2 c2] 26)).alloc (.cells #[.int .i64 1, .int .u64 3, .slice none 0 0, .int .i64 8, .int .u64 (ls : Nat), .slice none 0 0, .int .i64 4, .int .u64 (ep : Nat), .slice none 0 0] 92)).alloc (.cells #[.int .i64 4, .int .u64 (od : Nat), .slice none 0 0] 92)).alloc o) w.heap.size (.slice (some ⟨w.heap.size + 1, 0, none⟩) 3 3) 3 #[.int .i64 1, .int .u64 3, .slice none 0 0, .int .i64 8, .int .u64 (ls : Nat), .slice none 0 0, .int .i64 4, .int .u64 (ep : Nat), .slice none 0 0].toList := fun o => frow_made (((Lies.made2 w (.cells #[.int .i64 3, .int .u64 (ls : Nat), .int .u32 (ep : Nat), .int .u32 (od : Nat), .int .i64 st, .bool false, .int .i64 tr, .int .i64 cd, .int .u64 (mk : Nat), .slice A1 n1 c1, .slice A2 n2 c2] 26) 92 #[.int .i64 1, .int .u64 3, .slice none 0 0, .int .i64 8, .int .u64 (ls : Nat), .slice none 0 0, .int .i64 4, .int .u64 (ep : Nat), .slice none 0 0]).alloc (.cells #[.int .i64 4, .int .u64 (od : Nat), .slice none 0 0] 92)).alloc o) (by omega) rfl (by omega)
  have HFO := Lib.hid hfo
  have hgl : ∀ C : Array Value, Lies ((((w.alloc (.cells #[.int .i64 3, .int .u64 (ls : Nat), .int .u32 (ep : Nat), .int .u32 (od : Nat), .int .i64 st, .bool false, .int .i64 tr, .int .i64 cd, .int .u64 (mk : Nat), .slice A1 n1 c1, .slice A2 n2 c2] 26)).alloc (.cells #[.int .i64 1, .int .u64 3, .slice none 0 0, .int .i64 8, .int .u64 (ls : Nat), .slice none 0 0, .int .i64 4, .int .u64 (ep : Nat), .slice none 0 0] 92)).alloc (.cells #[.int .i64 4, .int .u64 (od : Nat), .slice none 0 0] 92)).alloc (.cells C 92)) (w.heap.size + 1 + 1 + 1) 92 C := fun C => by rw [← hs3]; exact Lies.made _ 92 C
  have HGL := Lib.hid hgl
  have hle : ∀ o : Obj, Lies ((((w.alloc (.cells #[.int .i64 3, .int .u64 (ls : Nat), .int .u32 (ep : Nat), .int .u32 (od : Nat), .int .i64 st, .bool false, .int .i64 tr, .int .i64 cd, .int .u64 (mk : Nat), .slice A1 n1 c1, .slice A2 n2 c2] 26)).alloc (.cells #[.int .i64 1, .int .u64 3, .slice none 0 0, .int .i64 8, .int .u64 (ls : Nat), .slice none 0 0, .int .i64 4, .int .u64 (ep : Nat), .slice none 0 0] 92)).alloc (.cells #[.int .i64 4, .int .u64 (od : Nat), .slice none 0 0] 92)).alloc o) w.heap.size 26 #[.int .i64 3, .int .u64 (ls : Nat), .int .u32 (ep : Nat), .int .u32 (od : Nat), .int .i64 st, .bool false, .int .i64 tr, .int .i64 cd, .int .u64 (mk : Nat), .slice A1 n1 c1, .slice A2 n2 c2] := fun o => (((Lies.made w 26 _).alloc _).alloc _).alloc o
  have HLE := Lib.hid hle
  have hbe : ∀ o : Obj, Below w.heap.size w ((((w.alloc (.cells #[.int .i64 3, .int .u64 (ls : Nat), .int .u32 (ep : Nat), .int .u32 (od : Nat), .int .i64 st, .bool false, .int .i64 tr, .int .i64 cd, .int .u64 (mk : Nat), .slice A1 n1 c1, .slice A2 n2 c2] 26)).alloc (.cells #[.int .i64 1, .int .u64 3, .slice none 0 0, .int .i64 8, .int .u64 (ls : Nat), .slice none 0 0, .int .i64 4, .int .u64 (ep : Nat), .slice none 0 0] 92)).alloc (.cells #[.int .i64 4, .int .u64 (od : Nat), .slice none 0 0] 92)).alloc o) := fun o => ((((Below.refl w.heap.size w).alloc (Nat.le_refl _) _).alloc (by simp) _).alloc (by simp; omega) _).alloc (by simp; omega) o
  have HBE := Lib.hid hbe
  clear hfo hgl hle hbe
  have ce : ∀ W : World, Lies W w.heap.size 26 #[.int .i64 3, .int .u64 (ls : Nat), .int .u32 (ep : Nat), .int .u32 (od : Nat), .int .i64 st, .bool false, .int .i64 tr, .int .i64 cd, .int .u64 (mk : Nat), .slice A1 n1 c1, .slice A2 n2 c2] → W.cell? ⟨w.heap.size, 0, none⟩ = some (.int .i64 3) ∧ W.cell? ⟨w.heap.size, 1, none⟩ = some (.int .u64 (ls : Nat)) ∧ W.cell? ⟨w.heap.size, 2, none⟩ = some (.int .u32 (ep : Nat)) ∧ W.cell? ⟨w.heap.size, 3, none⟩ = some (.int .u32 (od : Nat)) ∧ W.cell? ⟨w.heap.size, 4, none⟩ = some (.int .i64 st) ∧ W.cell? ⟨w.heap.size, 5, none⟩ = some (.bool false) ∧ W.cell? ⟨w.heap.size, 6, none⟩ = some (.int .i64 tr) ∧ W.cell? ⟨w.heap.size, 7, none⟩ = some (.int .i64 cd) ∧ W.cell? ⟨w.heap.size, 8, none⟩ = some (.int .u64 (mk : Nat)) ∧ W.cell? ⟨w.heap.size, 9, none⟩ = some (.slice A1 n1 c1) ∧ W.cell? ⟨w.heap.size, 10, none⟩ = some (.slice A2 n2 c2) := fun W h => ⟨h.cell 0, h.cell 1, h.cell 2, h.cell 3, h.cell 4, h.cell 5, h.cell 6, h.cell 7, h.cell 8, h.cell 9, h.cell 10⟩
  have CE := Lib.hid ce
  clear ce
  go_wp2_with (first
    | ((with_reducible refine wpl_appendF (some 81) _ _ _ (.tmp 68) (.tmp 80) w.heap.size (.slice (some ⟨w.heap.size + 1, 0, none⟩) 3 3) 3 _ (w.heap.size + 1 + 1 + 1) 4 _ ?hs ?hx (HFO.out _) (HGL.out _) ?hC ?ho ?hm ?hz ?_); (case hs => rfl); (case hx => rfl); (case hC => rfl); (case ho => simp [Value.oneCell']); (case hm => omega); (case hz => (exact (HBE.out _).size)); (intro v1 w1 ho hgr); (have HF1 := Lib.hid ho); (have hl1 := Lies.grown (HLE.out _) hgr (frow_ne (HFO.out (.cells #[] 92)) (HLE.out (.cells #[] 92)) (by decide))); (have HL1 := Lib.hid hl1); (have BB1 := Lib.hid ((HBE.out _).grown hgr (HBE.out _).size (fun q hq => frow_block (HFO.out (.cells #[] 92)) q hq))); (obtain ⟨e0, e1, e2, e3, e4, e5, e6, e7, e8, e9, e10⟩ := CE.out w1 hl1); (clear ho hgr hl1)))
  go_ret2
  first | exact ⟨_, rfl, BB1.out, fun h => by cases h⟩ | exact ⟨⟨_, rfl⟩, BB1.out⟩ | exact BB1.out

set_option maxRecDepth 100000 in
set_option maxHeartbeats 4000000 in
theorem flds3_4_t (e : Entry) (A1 A2 : Option Addr) (c1 c2 : Nat) (w : World) (hV : EntV w e A1 A2 c1 c2) (hkd : e.kind = 3) (hun : e.undo = true) (ho : 1 ≤ e.order) (h1 : 0 ≤ e.step) (h2 : e.step ≤ 15) (h3 : 1 ≤ e.tri) (h4 : ¬ e.tri ≤ 255) :
    Calls Try.prog 37 #[.agg (evs e (.slice A1 e.key.length c1) (.slice A2 e.data.length c2))] w (FldsPost e (.slice A1 e.key.length c1) (.slice A2 e.data.length c2) w) := by
  have hokf : okF e = false := by unfold okF; rw [hkd]; simp; omega
  unfold FldsPost
  rw [hokf]
  obtain ⟨n1, h_n1⟩ : ∃ q, e.key.length = q := ⟨_, rfl⟩
  obtain ⟨n2, h_n2⟩ : ∃ q, e.data.length = q := ⟨_, rfl⟩
  obtain ⟨od, h_od⟩ : ∃ q, e.order = q := ⟨_, rfl⟩
  obtain ⟨st, h_st⟩ : ∃ q, e.step = q := ⟨_, rfl⟩
  obtain ⟨tr, h_tr⟩ : ∃ q, e.tri = q := ⟨_, rfl⟩
  obtain ⟨cd, h_cd⟩ : ∃ q, e.code = q := ⟨_, rfl⟩
  obtain ⟨mk, h_mk⟩ : ∃ q, e.mark = q := ⟨_, rfl⟩
  obtain ⟨ls, h_ls⟩ : ∃ q, e.lsn = q := ⟨_, rfl⟩
  have hls := hV.b.lsn
  have hod := hV.b.order
  have hmk := hV.b.mark
  have hepb := hV.b.epoch
  obtain ⟨ep, h_ep⟩ : ∃ q, e.epoch = q := ⟨_, rfl⟩
  rw [h_ls] at hls
  rw [h_od] at hod
  rw [h_mk] at hmk
  rw [h_ep] at hepb
  rw [h_od] at ho
  rw [h_st] at h1
  rw [h_st] at h2
  rw [h_tr] at h3
  rw [h_tr] at h4
  unfold evs
  rw [h_n1, h_n2, h_ls, h_ep, h_od, h_st, h_tr, h_cd, h_mk, hun, hkd]
  have bf0_0 : decide (1 ≤ od) = true := by first | (rw [decide_eq_true_iff]; omega) | (rw [decide_eq_false_iff_not]; omega)
  have bf0_1 : decide ((1 : Int) ≤ ((od : Nat) : Int)) = true := by first | (rw [decide_eq_true_iff]; omega) | (rw [decide_eq_false_iff_not]; omega)
  clear hV hokf h_n1 h_n2 h_ls h_ep h_od h_st h_tr h_cd h_mk hun hkd
  go_enter Try.func37, Try.ntmps37
  have hs3 : (((w.alloc (.cells #[.int .i64 3, .int .u64 (ls : Nat), .int .u32 (ep : Nat), .int .u32 (od : Nat), .int .i64 st, .bool true, .int .i64 tr, .int .i64 cd, .int .u64 (mk : Nat), .slice A1 n1 c1, .slice A2 n2 c2] 26)).alloc (.cells #[.int .i64 1, .int .u64 3, .slice none 0 0, .int .i64 8, .int .u64 (ls : Nat), .slice none 0 0, .int .i64 4, .int .u64 (ep : Nat), .slice none 0 0] 92)).alloc (.cells #[.int .i64 4, .int .u64 (od : Nat), .slice none 0 0] 92)).heap.size = w.heap.size + 1 + 1 + 1 := by simp
  have hfo : ∀ o : Obj, FRow ((((w.alloc (.cells #[.int .i64 3, .int .u64 (ls : Nat), .int .u32 (ep : Nat), .int .u32 (od : Nat), .int .i64 st, .bool true, .int .i64 tr, .int .i64 cd, .int .u64 (mk : Nat), .slice A1 n1 c1, .slice A2 n2 c2] 26)).alloc (.cells #[.int .i64 1, .int .u64 3, .slice none 0 0, .int .i64 8, .int .u64 (ls : Nat), .slice none 0 0, .int .i64 4, .int .u64 (ep : Nat), .slice none 0 0] 92)).alloc (.cells #[.int .i64 4, .int .u64 (od : Nat), .slice none 0 0] 92)).alloc o) w.heap.size (.slice (some ⟨w.heap.size + 1, 0, none⟩) 3 3) 3 #[.int .i64 1, .int .u64 3, .slice none 0 0, .int .i64 8, .int .u64 (ls : Nat), .slice none 0 0, .int .i64 4, .int .u64 (ep : Nat), .slice none 0 0].toList := fun o => frow_made (((Lies.made2 w (.cells #[.int .i64 3, .int .u64 (ls : Nat), .int .u32 (ep : Nat), .int .u32 (od : Nat), .int .i64 st, .bool true, .int .i64 tr, .int .i64 cd, .int .u64 (mk : Nat), .slice A1 n1 c1, .slice A2 n2 c2] 26) 92 #[.int .i64 1, .int .u64 3, .slice none 0 0, .int .i64 8, .int .u64 (ls : Nat), .slice none 0 0, .int .i64 4, .int .u64 (ep : Nat), .slice none 0 0]).alloc (.cells #[.int .i64 4, .int .u64 (od : Nat), .slice none 0 0] 92)).alloc o) (by omega) rfl (by omega)
  have HFO := Lib.hid hfo
  have hgl : ∀ C : Array Value, Lies ((((w.alloc (.cells #[.int .i64 3, .int .u64 (ls : Nat), .int .u32 (ep : Nat), .int .u32 (od : Nat), .int .i64 st, .bool true, .int .i64 tr, .int .i64 cd, .int .u64 (mk : Nat), .slice A1 n1 c1, .slice A2 n2 c2] 26)).alloc (.cells #[.int .i64 1, .int .u64 3, .slice none 0 0, .int .i64 8, .int .u64 (ls : Nat), .slice none 0 0, .int .i64 4, .int .u64 (ep : Nat), .slice none 0 0] 92)).alloc (.cells #[.int .i64 4, .int .u64 (od : Nat), .slice none 0 0] 92)).alloc (.cells C 92)) (w.heap.size + 1 + 1 + 1) 92 C := fun C => by rw [← hs3]; exact Lies.made _ 92 C
  have HGL := Lib.hid hgl
  have hle : ∀ o : Obj, Lies ((((w.alloc (.cells #[.int .i64 3, .int .u64 (ls : Nat), .int .u32 (ep : Nat), .int .u32 (od : Nat), .int .i64 st, .bool true, .int .i64 tr, .int .i64 cd, .int .u64 (mk : Nat), .slice A1 n1 c1, .slice A2 n2 c2] 26)).alloc (.cells #[.int .i64 1, .int .u64 3, .slice none 0 0, .int .i64 8, .int .u64 (ls : Nat), .slice none 0 0, .int .i64 4, .int .u64 (ep : Nat), .slice none 0 0] 92)).alloc (.cells #[.int .i64 4, .int .u64 (od : Nat), .slice none 0 0] 92)).alloc o) w.heap.size 26 #[.int .i64 3, .int .u64 (ls : Nat), .int .u32 (ep : Nat), .int .u32 (od : Nat), .int .i64 st, .bool true, .int .i64 tr, .int .i64 cd, .int .u64 (mk : Nat), .slice A1 n1 c1, .slice A2 n2 c2] := fun o => (((Lies.made w 26 _).alloc _).alloc _).alloc o
  have HLE := Lib.hid hle
  have hbe : ∀ o : Obj, Below w.heap.size w ((((w.alloc (.cells #[.int .i64 3, .int .u64 (ls : Nat), .int .u32 (ep : Nat), .int .u32 (od : Nat), .int .i64 st, .bool true, .int .i64 tr, .int .i64 cd, .int .u64 (mk : Nat), .slice A1 n1 c1, .slice A2 n2 c2] 26)).alloc (.cells #[.int .i64 1, .int .u64 3, .slice none 0 0, .int .i64 8, .int .u64 (ls : Nat), .slice none 0 0, .int .i64 4, .int .u64 (ep : Nat), .slice none 0 0] 92)).alloc (.cells #[.int .i64 4, .int .u64 (od : Nat), .slice none 0 0] 92)).alloc o) := fun o => ((((Below.refl w.heap.size w).alloc (Nat.le_refl _) _).alloc (by simp) _).alloc (by simp; omega) _).alloc (by simp; omega) o
  have HBE := Lib.hid hbe
  clear hfo hgl hle hbe
  have ce : ∀ W : World, Lies W w.heap.size 26 #[.int .i64 3, .int .u64 (ls : Nat), .int .u32 (ep : Nat), .int .u32 (od : Nat), .int .i64 st, .bool true, .int .i64 tr, .int .i64 cd, .int .u64 (mk : Nat), .slice A1 n1 c1, .slice A2 n2 c2] → W.cell? ⟨w.heap.size, 0, none⟩ = some (.int .i64 3) ∧ W.cell? ⟨w.heap.size, 1, none⟩ = some (.int .u64 (ls : Nat)) ∧ W.cell? ⟨w.heap.size, 2, none⟩ = some (.int .u32 (ep : Nat)) ∧ W.cell? ⟨w.heap.size, 3, none⟩ = some (.int .u32 (od : Nat)) ∧ W.cell? ⟨w.heap.size, 4, none⟩ = some (.int .i64 st) ∧ W.cell? ⟨w.heap.size, 5, none⟩ = some (.bool true) ∧ W.cell? ⟨w.heap.size, 6, none⟩ = some (.int .i64 tr) ∧ W.cell? ⟨w.heap.size, 7, none⟩ = some (.int .i64 cd) ∧ W.cell? ⟨w.heap.size, 8, none⟩ = some (.int .u64 (mk : Nat)) ∧ W.cell? ⟨w.heap.size, 9, none⟩ = some (.slice A1 n1 c1) ∧ W.cell? ⟨w.heap.size, 10, none⟩ = some (.slice A2 n2 c2) := fun W h => ⟨h.cell 0, h.cell 1, h.cell 2, h.cell 3, h.cell 4, h.cell 5, h.cell 6, h.cell 7, h.cell 8, h.cell 9, h.cell 10⟩
  have CE := Lib.hid ce
  clear ce
  go_wp2_with (first
    | ((with_reducible refine wpl_appendF (some 81) _ _ _ (.tmp 68) (.tmp 80) w.heap.size (.slice (some ⟨w.heap.size + 1, 0, none⟩) 3 3) 3 _ (w.heap.size + 1 + 1 + 1) 4 _ ?hs ?hx (HFO.out _) (HGL.out _) ?hC ?ho ?hm ?hz ?_); (case hs => rfl); (case hx => rfl); (case hC => rfl); (case ho => simp [Value.oneCell']); (case hm => omega); (case hz => (exact (HBE.out _).size)); (intro v1 w1 ho hgr); (have HF1 := Lib.hid ho); (have hl1 := Lies.grown (HLE.out _) hgr (frow_ne (HFO.out (.cells #[] 92)) (HLE.out (.cells #[] 92)) (by decide))); (have HL1 := Lib.hid hl1); (have BB1 := Lib.hid ((HBE.out _).grown hgr (HBE.out _).size (fun q hq => frow_block (HFO.out (.cells #[] 92)) q hq))); (obtain ⟨e0, e1, e2, e3, e4, e5, e6, e7, e8, e9, e10⟩ := CE.out w1 hl1); (clear ho hgr hl1)))
  go_ret2
  first | exact ⟨_, rfl, BB1.out, fun h => by cases h⟩ | exact ⟨⟨_, rfl⟩, BB1.out⟩ | exact BB1.out

set_option maxRecDepth 100000 in
set_option maxHeartbeats 4000000 in
theorem flds3_5_f (e : Entry) (A1 A2 : Option Addr) (c1 c2 : Nat) (w : World) (hV : EntV w e A1 A2 c1 c2) (hkd : e.kind = 3) (hun : e.undo = false) (ho : 1 ≤ e.order) (h1 : 0 ≤ e.step) (h2 : e.step ≤ 15) (h3 : 1 ≤ e.tri) (h4 : e.tri ≤ 255) :
    Calls Try.prog 37 #[.agg (evs e (.slice A1 e.key.length c1) (.slice A2 e.data.length c2))] w (FldsPost e (.slice A1 e.key.length c1) (.slice A2 e.data.length c2) w) := by
  have hokf : okF e = true := by unfold okF; rw [hkd]; simp; omega
  unfold FldsPost
  rw [hokf]
  have hfl : (fldsOf e (.slice A1 e.key.length c1) (.slice A2 e.data.length c2)) = (fldsOf e (.slice A1 e.key.length c1) (.slice A2 e.data.length c2)) := rfl
  obtain ⟨n1, h_n1⟩ : ∃ q, e.key.length = q := ⟨_, rfl⟩
  obtain ⟨n2, h_n2⟩ : ∃ q, e.data.length = q := ⟨_, rfl⟩
  obtain ⟨od, h_od⟩ : ∃ q, e.order = q := ⟨_, rfl⟩
  obtain ⟨st, h_st⟩ : ∃ q, e.step = q := ⟨_, rfl⟩
  obtain ⟨tr, h_tr⟩ : ∃ q, e.tri = q := ⟨_, rfl⟩
  obtain ⟨cd, h_cd⟩ : ∃ q, e.code = q := ⟨_, rfl⟩
  obtain ⟨mk, h_mk⟩ : ∃ q, e.mark = q := ⟨_, rfl⟩
  obtain ⟨ls, h_ls⟩ : ∃ q, e.lsn = q := ⟨_, rfl⟩
  have hls := hV.b.lsn
  have hod := hV.b.order
  have hmk := hV.b.mark
  have hepb := hV.b.epoch
  obtain ⟨ep, h_ep⟩ : ∃ q, e.epoch = q := ⟨_, rfl⟩
  rw [h_ls] at hls
  rw [h_od] at hod
  rw [h_mk] at hmk
  rw [h_ep] at hepb
  rw [h_od] at ho
  rw [h_st] at h1
  rw [h_st] at h2
  rw [h_tr] at h3
  rw [h_tr] at h4
  obtain ⟨stn, h_stn⟩ : ∃ q : Nat, st = (q : Int) := ⟨st.toNat, by omega⟩
  have hw_st : IntKind.u64.wrap st = ((stn : Nat) : Int) := by rw [IntKind.wrap_u64]; omega
  obtain ⟨trn, h_trn⟩ : ∃ q : Nat, tr = (q : Int) := ⟨tr.toNat, by omega⟩
  have hw_tr : IntKind.u64.wrap tr = ((trn : Nat) : Int) := by rw [IntKind.wrap_u64]; omega
  have hfe : fldsOf e (.slice A1 e.key.length c1) (.slice A2 e.data.length c2) = [num 1 3, num 8 ls, num 4 ep, num 4 od, num 1 stn, num 1 0, num 1 trn] := by
    unfold fldsOf; rw [hkd, h_ls, h_ep, h_n1, h_n2]; simp [num, h_od, h_mk, hun, Ent.b2n, h_st, h_stn, h_tr, h_trn]
  clear hfl
  unfold evs
  rw [h_n1, h_n2, h_ls, h_ep, h_od, h_st, h_tr, h_cd, h_mk, hun, hkd]
  rw [h_n1, h_n2] at hfe
  rw [hfe]
  have bf0_0 : decide (1 ≤ od) = true := by first | (rw [decide_eq_true_iff]; omega) | (rw [decide_eq_false_iff_not]; omega)
  have bf0_1 : decide ((1 : Int) ≤ ((od : Nat) : Int)) = true := by first | (rw [decide_eq_true_iff]; omega) | (rw [decide_eq_false_iff_not]; omega)
  clear h_stn h_trn
  clear hV hokf h_n1 h_n2 h_ls h_ep h_od h_st h_tr h_cd h_mk hun hkd hfe
  go_enter Try.func37, Try.ntmps37
  have hs3 : (((w.alloc (.cells #[.int .i64 3, .int .u64 (ls : Nat), .int .u32 (ep : Nat), .int .u32 (od : Nat), .int .i64 st, .bool false, .int .i64 tr, .int .i64 cd, .int .u64 (mk : Nat), .slice A1 n1 c1, .slice A2 n2 c2] 26)).alloc (.cells #[.int .i64 1, .int .u64 3, .slice none 0 0, .int .i64 8, .int .u64 (ls : Nat), .slice none 0 0, .int .i64 4, .int .u64 (ep : Nat), .slice none 0 0] 92)).alloc (.cells #[.int .i64 4, .int .u64 (od : Nat), .slice none 0 0] 92)).heap.size = w.heap.size + 1 + 1 + 1 := by simp
  have hfo : ∀ o : Obj, FRow ((((w.alloc (.cells #[.int .i64 3, .int .u64 (ls : Nat), .int .u32 (ep : Nat), .int .u32 (od : Nat), .int .i64 st, .bool false, .int .i64 tr, .int .i64 cd, .int .u64 (mk : Nat), .slice A1 n1 c1, .slice A2 n2 c2] 26)).alloc (.cells #[.int .i64 1, .int .u64 3, .slice none 0 0, .int .i64 8, .int .u64 (ls : Nat), .slice none 0 0, .int .i64 4, .int .u64 (ep : Nat), .slice none 0 0] 92)).alloc (.cells #[.int .i64 4, .int .u64 (od : Nat), .slice none 0 0] 92)).alloc o) w.heap.size (.slice (some ⟨w.heap.size + 1, 0, none⟩) 3 3) 3 #[.int .i64 1, .int .u64 3, .slice none 0 0, .int .i64 8, .int .u64 (ls : Nat), .slice none 0 0, .int .i64 4, .int .u64 (ep : Nat), .slice none 0 0].toList := fun o => frow_made (((Lies.made2 w (.cells #[.int .i64 3, .int .u64 (ls : Nat), .int .u32 (ep : Nat), .int .u32 (od : Nat), .int .i64 st, .bool false, .int .i64 tr, .int .i64 cd, .int .u64 (mk : Nat), .slice A1 n1 c1, .slice A2 n2 c2] 26) 92 #[.int .i64 1, .int .u64 3, .slice none 0 0, .int .i64 8, .int .u64 (ls : Nat), .slice none 0 0, .int .i64 4, .int .u64 (ep : Nat), .slice none 0 0]).alloc (.cells #[.int .i64 4, .int .u64 (od : Nat), .slice none 0 0] 92)).alloc o) (by omega) rfl (by omega)
  have HFO := Lib.hid hfo
  have hgl : ∀ C : Array Value, Lies ((((w.alloc (.cells #[.int .i64 3, .int .u64 (ls : Nat), .int .u32 (ep : Nat), .int .u32 (od : Nat), .int .i64 st, .bool false, .int .i64 tr, .int .i64 cd, .int .u64 (mk : Nat), .slice A1 n1 c1, .slice A2 n2 c2] 26)).alloc (.cells #[.int .i64 1, .int .u64 3, .slice none 0 0, .int .i64 8, .int .u64 (ls : Nat), .slice none 0 0, .int .i64 4, .int .u64 (ep : Nat), .slice none 0 0] 92)).alloc (.cells #[.int .i64 4, .int .u64 (od : Nat), .slice none 0 0] 92)).alloc (.cells C 92)) (w.heap.size + 1 + 1 + 1) 92 C := fun C => by rw [← hs3]; exact Lies.made _ 92 C
  have HGL := Lib.hid hgl
  have hle : ∀ o : Obj, Lies ((((w.alloc (.cells #[.int .i64 3, .int .u64 (ls : Nat), .int .u32 (ep : Nat), .int .u32 (od : Nat), .int .i64 st, .bool false, .int .i64 tr, .int .i64 cd, .int .u64 (mk : Nat), .slice A1 n1 c1, .slice A2 n2 c2] 26)).alloc (.cells #[.int .i64 1, .int .u64 3, .slice none 0 0, .int .i64 8, .int .u64 (ls : Nat), .slice none 0 0, .int .i64 4, .int .u64 (ep : Nat), .slice none 0 0] 92)).alloc (.cells #[.int .i64 4, .int .u64 (od : Nat), .slice none 0 0] 92)).alloc o) w.heap.size 26 #[.int .i64 3, .int .u64 (ls : Nat), .int .u32 (ep : Nat), .int .u32 (od : Nat), .int .i64 st, .bool false, .int .i64 tr, .int .i64 cd, .int .u64 (mk : Nat), .slice A1 n1 c1, .slice A2 n2 c2] := fun o => (((Lies.made w 26 _).alloc _).alloc _).alloc o
  have HLE := Lib.hid hle
  have hbe : ∀ o : Obj, Below w.heap.size w ((((w.alloc (.cells #[.int .i64 3, .int .u64 (ls : Nat), .int .u32 (ep : Nat), .int .u32 (od : Nat), .int .i64 st, .bool false, .int .i64 tr, .int .i64 cd, .int .u64 (mk : Nat), .slice A1 n1 c1, .slice A2 n2 c2] 26)).alloc (.cells #[.int .i64 1, .int .u64 3, .slice none 0 0, .int .i64 8, .int .u64 (ls : Nat), .slice none 0 0, .int .i64 4, .int .u64 (ep : Nat), .slice none 0 0] 92)).alloc (.cells #[.int .i64 4, .int .u64 (od : Nat), .slice none 0 0] 92)).alloc o) := fun o => ((((Below.refl w.heap.size w).alloc (Nat.le_refl _) _).alloc (by simp) _).alloc (by simp; omega) _).alloc (by simp; omega) o
  have HBE := Lib.hid hbe
  clear hfo hgl hle hbe
  have ce : ∀ W : World, Lies W w.heap.size 26 #[.int .i64 3, .int .u64 (ls : Nat), .int .u32 (ep : Nat), .int .u32 (od : Nat), .int .i64 st, .bool false, .int .i64 tr, .int .i64 cd, .int .u64 (mk : Nat), .slice A1 n1 c1, .slice A2 n2 c2] → W.cell? ⟨w.heap.size, 0, none⟩ = some (.int .i64 3) ∧ W.cell? ⟨w.heap.size, 1, none⟩ = some (.int .u64 (ls : Nat)) ∧ W.cell? ⟨w.heap.size, 2, none⟩ = some (.int .u32 (ep : Nat)) ∧ W.cell? ⟨w.heap.size, 3, none⟩ = some (.int .u32 (od : Nat)) ∧ W.cell? ⟨w.heap.size, 4, none⟩ = some (.int .i64 st) ∧ W.cell? ⟨w.heap.size, 5, none⟩ = some (.bool false) ∧ W.cell? ⟨w.heap.size, 6, none⟩ = some (.int .i64 tr) ∧ W.cell? ⟨w.heap.size, 7, none⟩ = some (.int .i64 cd) ∧ W.cell? ⟨w.heap.size, 8, none⟩ = some (.int .u64 (mk : Nat)) ∧ W.cell? ⟨w.heap.size, 9, none⟩ = some (.slice A1 n1 c1) ∧ W.cell? ⟨w.heap.size, 10, none⟩ = some (.slice A2 n2 c2) := fun W h => ⟨h.cell 0, h.cell 1, h.cell 2, h.cell 3, h.cell 4, h.cell 5, h.cell 6, h.cell 7, h.cell 8, h.cell 9, h.cell 10⟩
  have CE := Lib.hid ce
  clear ce
  go_wp2_with (first
    | ((with_reducible refine wpl_appendF (some 81) _ _ _ (.tmp 68) (.tmp 80) w.heap.size (.slice (some ⟨w.heap.size + 1, 0, none⟩) 3 3) 3 _ (w.heap.size + 1 + 1 + 1) 4 _ ?hs ?hx (HFO.out _) (HGL.out _) ?hC ?ho ?hm ?hz ?_); (case hs => rfl); (case hx => rfl); (case hC => rfl); (case ho => simp [Value.oneCell']); (case hm => omega); (case hz => (exact (HBE.out _).size)); (intro v1 w1 ho hgr); (have HF1 := Lib.hid ho); (have hl1 := Lies.grown (HLE.out _) hgr (frow_ne (HFO.out (.cells #[] 92)) (HLE.out (.cells #[] 92)) (by decide))); (have HL1 := Lib.hid hl1); (have BB1 := Lib.hid ((HBE.out _).grown hgr (HBE.out _).size (fun q hq => frow_block (HFO.out (.cells #[] 92)) q hq))); (obtain ⟨e0, e1, e2, e3, e4, e5, e6, e7, e8, e9, e10⟩ := CE.out w1 hl1); (clear ho hgr hl1)))
  go_ret2
  first | exact ⟨_, rfl, BB1.out, fun _ => HF1.out⟩ | exact ⟨BB1.out, HF1.out⟩ | exact ⟨_, rfl, BB1.out, HF1.out⟩

set_option maxRecDepth 100000 in
set_option maxHeartbeats 4000000 in
theorem flds3_5_t (e : Entry) (A1 A2 : Option Addr) (c1 c2 : Nat) (w : World) (hV : EntV w e A1 A2 c1 c2) (hkd : e.kind = 3) (hun : e.undo = true) (ho : 1 ≤ e.order) (h1 : 0 ≤ e.step) (h2 : e.step ≤ 15) (h3 : 1 ≤ e.tri) (h4 : e.tri ≤ 255) :
    Calls Try.prog 37 #[.agg (evs e (.slice A1 e.key.length c1) (.slice A2 e.data.length c2))] w (FldsPost e (.slice A1 e.key.length c1) (.slice A2 e.data.length c2) w) := by
  have hokf : okF e = true := by unfold okF; rw [hkd]; simp; omega
  unfold FldsPost
  rw [hokf]
  have hfl : (fldsOf e (.slice A1 e.key.length c1) (.slice A2 e.data.length c2)) = (fldsOf e (.slice A1 e.key.length c1) (.slice A2 e.data.length c2)) := rfl
  obtain ⟨n1, h_n1⟩ : ∃ q, e.key.length = q := ⟨_, rfl⟩
  obtain ⟨n2, h_n2⟩ : ∃ q, e.data.length = q := ⟨_, rfl⟩
  obtain ⟨od, h_od⟩ : ∃ q, e.order = q := ⟨_, rfl⟩
  obtain ⟨st, h_st⟩ : ∃ q, e.step = q := ⟨_, rfl⟩
  obtain ⟨tr, h_tr⟩ : ∃ q, e.tri = q := ⟨_, rfl⟩
  obtain ⟨cd, h_cd⟩ : ∃ q, e.code = q := ⟨_, rfl⟩
  obtain ⟨mk, h_mk⟩ : ∃ q, e.mark = q := ⟨_, rfl⟩
  obtain ⟨ls, h_ls⟩ : ∃ q, e.lsn = q := ⟨_, rfl⟩
  have hls := hV.b.lsn
  have hod := hV.b.order
  have hmk := hV.b.mark
  have hepb := hV.b.epoch
  obtain ⟨ep, h_ep⟩ : ∃ q, e.epoch = q := ⟨_, rfl⟩
  rw [h_ls] at hls
  rw [h_od] at hod
  rw [h_mk] at hmk
  rw [h_ep] at hepb
  rw [h_od] at ho
  rw [h_st] at h1
  rw [h_st] at h2
  rw [h_tr] at h3
  rw [h_tr] at h4
  obtain ⟨stn, h_stn⟩ : ∃ q : Nat, st = (q : Int) := ⟨st.toNat, by omega⟩
  have hw_st : IntKind.u64.wrap st = ((stn : Nat) : Int) := by rw [IntKind.wrap_u64]; omega
  obtain ⟨trn, h_trn⟩ : ∃ q : Nat, tr = (q : Int) := ⟨tr.toNat, by omega⟩
  have hw_tr : IntKind.u64.wrap tr = ((trn : Nat) : Int) := by rw [IntKind.wrap_u64]; omega
  have hfe : fldsOf e (.slice A1 e.key.length c1) (.slice A2 e.data.length c2) = [num 1 3, num 8 ls, num 4 ep, num 4 od, num 1 stn, num 1 1, num 1 trn] := by
    unfold fldsOf; rw [hkd, h_ls, h_ep, h_n1, h_n2]; simp [num, h_od, h_mk, hun, Ent.b2n, h_st, h_stn, h_tr, h_trn]
  clear hfl
  unfold evs
  rw [h_n1, h_n2, h_ls, h_ep, h_od, h_st, h_tr, h_cd, h_mk, hun, hkd]
  rw [h_n1, h_n2] at hfe
  rw [hfe]
  have bf0_0 : decide (1 ≤ od) = true := by first | (rw [decide_eq_true_iff]; omega) | (rw [decide_eq_false_iff_not]; omega)
  have bf0_1 : decide ((1 : Int) ≤ ((od : Nat) : Int)) = true := by first | (rw [decide_eq_true_iff]; omega) | (rw [decide_eq_false_iff_not]; omega)
  clear h_stn h_trn
  clear hV hokf h_n1 h_n2 h_ls h_ep h_od h_st h_tr h_cd h_mk hun hkd hfe
  go_enter Try.func37, Try.ntmps37
  have hs3 : (((w.alloc (.cells #[.int .i64 3, .int .u64 (ls : Nat), .int .u32 (ep : Nat), .int .u32 (od : Nat), .int .i64 st, .bool true, .int .i64 tr, .int .i64 cd, .int .u64 (mk : Nat), .slice A1 n1 c1, .slice A2 n2 c2] 26)).alloc (.cells #[.int .i64 1, .int .u64 3, .slice none 0 0, .int .i64 8, .int .u64 (ls : Nat), .slice none 0 0, .int .i64 4, .int .u64 (ep : Nat), .slice none 0 0] 92)).alloc (.cells #[.int .i64 4, .int .u64 (od : Nat), .slice none 0 0] 92)).heap.size = w.heap.size + 1 + 1 + 1 := by simp
  have hfo : ∀ o : Obj, FRow ((((w.alloc (.cells #[.int .i64 3, .int .u64 (ls : Nat), .int .u32 (ep : Nat), .int .u32 (od : Nat), .int .i64 st, .bool true, .int .i64 tr, .int .i64 cd, .int .u64 (mk : Nat), .slice A1 n1 c1, .slice A2 n2 c2] 26)).alloc (.cells #[.int .i64 1, .int .u64 3, .slice none 0 0, .int .i64 8, .int .u64 (ls : Nat), .slice none 0 0, .int .i64 4, .int .u64 (ep : Nat), .slice none 0 0] 92)).alloc (.cells #[.int .i64 4, .int .u64 (od : Nat), .slice none 0 0] 92)).alloc o) w.heap.size (.slice (some ⟨w.heap.size + 1, 0, none⟩) 3 3) 3 #[.int .i64 1, .int .u64 3, .slice none 0 0, .int .i64 8, .int .u64 (ls : Nat), .slice none 0 0, .int .i64 4, .int .u64 (ep : Nat), .slice none 0 0].toList := fun o => frow_made (((Lies.made2 w (.cells #[.int .i64 3, .int .u64 (ls : Nat), .int .u32 (ep : Nat), .int .u32 (od : Nat), .int .i64 st, .bool true, .int .i64 tr, .int .i64 cd, .int .u64 (mk : Nat), .slice A1 n1 c1, .slice A2 n2 c2] 26) 92 #[.int .i64 1, .int .u64 3, .slice none 0 0, .int .i64 8, .int .u64 (ls : Nat), .slice none 0 0, .int .i64 4, .int .u64 (ep : Nat), .slice none 0 0]).alloc (.cells #[.int .i64 4, .int .u64 (od : Nat), .slice none 0 0] 92)).alloc o) (by omega) rfl (by omega)
  have HFO := Lib.hid hfo
  have hgl : ∀ C : Array Value, Lies ((((w.alloc (.cells #[.int .i64 3, .int .u64 (ls : Nat), .int .u32 (ep : Nat), .int .u32 (od : Nat), .int .i64 st, .bool true, .int .i64 tr, .int .i64 cd, .int .u64 (mk : Nat), .slice A1 n1 c1, .slice A2 n2 c2] 26)).alloc (.cells #[.int .i64 1, .int .u64 3, .slice none 0 0, .int .i64 8, .int .u64 (ls : Nat), .slice none 0 0, .int .i64 4, .int .u64 (ep : Nat), .slice none 0 0] 92)).alloc (.cells #[.int .i64 4, .int .u64 (od : Nat), .slice none 0 0] 92)).alloc (.cells C 92)) (w.heap.size + 1 + 1 + 1) 92 C := fun C => by rw [← hs3]; exact Lies.made _ 92 C
  have HGL := Lib.hid hgl
  have hle : ∀ o : Obj, Lies ((((w.alloc (.cells #[.int .i64 3, .int .u64 (ls : Nat), .int .u32 (ep : Nat), .int .u32 (od : Nat), .int .i64 st, .bool true, .int .i64 tr, .int .i64 cd, .int .u64 (mk : Nat), .slice A1 n1 c1, .slice A2 n2 c2] 26)).alloc (.cells #[.int .i64 1, .int .u64 3, .slice none 0 0, .int .i64 8, .int .u64 (ls : Nat), .slice none 0 0, .int .i64 4, .int .u64 (ep : Nat), .slice none 0 0] 92)).alloc (.cells #[.int .i64 4, .int .u64 (od : Nat), .slice none 0 0] 92)).alloc o) w.heap.size 26 #[.int .i64 3, .int .u64 (ls : Nat), .int .u32 (ep : Nat), .int .u32 (od : Nat), .int .i64 st, .bool true, .int .i64 tr, .int .i64 cd, .int .u64 (mk : Nat), .slice A1 n1 c1, .slice A2 n2 c2] := fun o => (((Lies.made w 26 _).alloc _).alloc _).alloc o
  have HLE := Lib.hid hle
  have hbe : ∀ o : Obj, Below w.heap.size w ((((w.alloc (.cells #[.int .i64 3, .int .u64 (ls : Nat), .int .u32 (ep : Nat), .int .u32 (od : Nat), .int .i64 st, .bool true, .int .i64 tr, .int .i64 cd, .int .u64 (mk : Nat), .slice A1 n1 c1, .slice A2 n2 c2] 26)).alloc (.cells #[.int .i64 1, .int .u64 3, .slice none 0 0, .int .i64 8, .int .u64 (ls : Nat), .slice none 0 0, .int .i64 4, .int .u64 (ep : Nat), .slice none 0 0] 92)).alloc (.cells #[.int .i64 4, .int .u64 (od : Nat), .slice none 0 0] 92)).alloc o) := fun o => ((((Below.refl w.heap.size w).alloc (Nat.le_refl _) _).alloc (by simp) _).alloc (by simp; omega) _).alloc (by simp; omega) o
  have HBE := Lib.hid hbe
  clear hfo hgl hle hbe
  have ce : ∀ W : World, Lies W w.heap.size 26 #[.int .i64 3, .int .u64 (ls : Nat), .int .u32 (ep : Nat), .int .u32 (od : Nat), .int .i64 st, .bool true, .int .i64 tr, .int .i64 cd, .int .u64 (mk : Nat), .slice A1 n1 c1, .slice A2 n2 c2] → W.cell? ⟨w.heap.size, 0, none⟩ = some (.int .i64 3) ∧ W.cell? ⟨w.heap.size, 1, none⟩ = some (.int .u64 (ls : Nat)) ∧ W.cell? ⟨w.heap.size, 2, none⟩ = some (.int .u32 (ep : Nat)) ∧ W.cell? ⟨w.heap.size, 3, none⟩ = some (.int .u32 (od : Nat)) ∧ W.cell? ⟨w.heap.size, 4, none⟩ = some (.int .i64 st) ∧ W.cell? ⟨w.heap.size, 5, none⟩ = some (.bool true) ∧ W.cell? ⟨w.heap.size, 6, none⟩ = some (.int .i64 tr) ∧ W.cell? ⟨w.heap.size, 7, none⟩ = some (.int .i64 cd) ∧ W.cell? ⟨w.heap.size, 8, none⟩ = some (.int .u64 (mk : Nat)) ∧ W.cell? ⟨w.heap.size, 9, none⟩ = some (.slice A1 n1 c1) ∧ W.cell? ⟨w.heap.size, 10, none⟩ = some (.slice A2 n2 c2) := fun W h => ⟨h.cell 0, h.cell 1, h.cell 2, h.cell 3, h.cell 4, h.cell 5, h.cell 6, h.cell 7, h.cell 8, h.cell 9, h.cell 10⟩
  have CE := Lib.hid ce
  clear ce
  go_wp2_with (first
    | ((with_reducible refine wpl_appendF (some 81) _ _ _ (.tmp 68) (.tmp 80) w.heap.size (.slice (some ⟨w.heap.size + 1, 0, none⟩) 3 3) 3 _ (w.heap.size + 1 + 1 + 1) 4 _ ?hs ?hx (HFO.out _) (HGL.out _) ?hC ?ho ?hm ?hz ?_); (case hs => rfl); (case hx => rfl); (case hC => rfl); (case ho => simp [Value.oneCell']); (case hm => omega); (case hz => (exact (HBE.out _).size)); (intro v1 w1 ho hgr); (have HF1 := Lib.hid ho); (have hl1 := Lies.grown (HLE.out _) hgr (frow_ne (HFO.out (.cells #[] 92)) (HLE.out (.cells #[] 92)) (by decide))); (have HL1 := Lib.hid hl1); (have BB1 := Lib.hid ((HBE.out _).grown hgr (HBE.out _).size (fun q hq => frow_block (HFO.out (.cells #[] 92)) q hq))); (obtain ⟨e0, e1, e2, e3, e4, e5, e6, e7, e8, e9, e10⟩ := CE.out w1 hl1); (clear ho hgr hl1)))
  go_ret2
  first | exact ⟨_, rfl, BB1.out, fun _ => HF1.out⟩ | exact ⟨BB1.out, HF1.out⟩ | exact ⟨_, rfl, BB1.out, HF1.out⟩

end Go.Proofs.Ytccpmalefdnhdaa
