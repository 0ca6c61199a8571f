/-
  The contract of the document's 'plain' and 'next': for all entries.
-/
import Derived.Test.YtccpmalefdnhdaaKnown
namespace Go.Proofs.Ytccpmalefdnhdaa
open Go.RowKit
set_option linter.unusedVariables false

/-- An entry with what its kind names alone. -/
def plainE (e : Entry) : Entry :=
  ⟨e.kind, e.lsn, e.epoch, if Ent.hasO e.kind then e.order else 0, if Ent.hasS e.kind then e.step else 0, if Ent.hasS e.kind then e.undo else false, if Ent.hasS e.kind then e.tri else 0,
   if Ent.codes e.kind = 0 then 0 else e.code, if Ent.hasM e.kind then e.mark else 0, if Ent.hasT e.kind then e.key else [], if Ent.hasT e.kind then e.data else []⟩
def PlainPost (e : Entry) (A1 A2 : Option Addr) (c1 c2 : Nat) (w : World) (x : Ending) (w' : World) : Prop :=
  x = .returned (.agg (evs (plainE e) (if Ent.hasT e.kind then .slice A1 e.key.length c1 else nilV) (if Ent.hasT e.kind then .slice A2 e.data.length c2 else nilV))) ∧ Below w.heap.size w w'
set_option maxRecDepth 100000 in
theorem ret_E1 {fn : Func} {R : Ending → World → Prop} {a : Act} {w : World} {p : Tmp} (g : Nat) (t : TypeId) (cs : Array Value) (h : fn.results = #[.cell p 26]) (hp : a.tmps.getD p undef = .pointer (some ⟨g, 0, none⟩)) (hg : Lies w g t cs) (hs : cs.size = 11) (hd : a.defers = [])
    (hR : R (.returned (.agg cs)) w) : bodyPost Try.prog fn R .ret a w :=
  bodyPost_ret (results_cell_row h _ _ g t cs (0, 0) _ hp hg Try.underlying26 rfl (by rw [hs]; kernel_rfl)) hd hR
theorem below3 (w : World) (o p q : Obj) : Below w.heap.size w (((w.alloc o).alloc p).alloc q) := (below2 w o p).alloc (by simp; omega) _

set_option maxRecDepth 100000 in
set_option maxHeartbeats 2000000 in
theorem plain_1 (e : Entry) (A1 A2 : Option Addr) (c1 c2 : Nat) (w : World) (hkd : e.kind = 1) :
    Calls Try.prog 58 #[.agg (evs e (.slice A1 e.key.length c1) (.slice A2 e.data.length c2))] w (PlainPost e A1 A2 c1 c2 w) := by
  obtain ⟨n1, hn1⟩ : ∃ n, e.key.length = n := ⟨_, rfl⟩
  obtain ⟨n2, hn2⟩ : ∃ n, e.data.length = n := ⟨_, rfl⟩
  obtain ⟨kd, h_kd⟩ : ∃ k, e.kind = k := ⟨_, rfl⟩
  have h1 : Ent.hasO kd = false := by rw [← h_kd, hkd]; rfl
  have h2 : Ent.hasT kd = false := by rw [← h_kd, hkd]; rfl
  have h3 : Ent.hasS kd = false := by rw [← h_kd, hkd]; rfl
  have h4 : Ent.codes kd = 0 := by rw [← h_kd, hkd]; rfl
  have h5 : Ent.hasM kd = false := by rw [← h_kd, hkd]; rfl
  have hres : evs (plainE e) (if Ent.hasT e.kind then .slice A1 e.key.length c1 else nilV) (if Ent.hasT e.kind then .slice A2 e.data.length c2 else nilV) = #[.int .i64 1, .int .u64 (e.lsn : Nat), .int .u32 (e.epoch : Nat), .int .u32 0, .int .i64 0, .bool false, .int .i64 0, .int .i64 0, .int .u64 0, .slice none 0 0, .slice none 0 0] := by
    unfold evs plainE
    simp only [h_kd, h1, h2, h3, h4, h5, hn1, hn2]
    subst h_kd; rw [hkd]; rfl
  unfold PlainPost
  rw [hres]
  clear hres h1 h2 h3 h4 h5
  rw [h_kd] at hkd
  unfold evs
  rw [hn1, hn2, h_kd]
  subst hkd
  clear hn1 hn2 h_kd
  go_enter Try.func58, Try.ntmps58
  go_wp2
  exact ret_E1 (w.heap.size + 1) 26 #[.int .i64 1, .int .u64 (e.lsn : Nat), .int .u32 (e.epoch : Nat), .int .u32 0, .int .i64 0, .bool false, .int .i64 0, .int .i64 0, .int .u64 0, .slice none 0 0, .slice none 0 0] rfl rfl ((Lies.made2 w _ 26 _).alloc _) rfl rfl ⟨rfl, below3 _ _ _ _⟩

set_option maxRecDepth 100000 in
set_option maxHeartbeats 2000000 in
theorem plain_2 (e : Entry) (A1 A2 : Option Addr) (c1 c2 : Nat) (w : World) (hkd : e.kind = 2) :
    Calls Try.prog 58 #[.agg (evs e (.slice A1 e.key.length c1) (.slice A2 e.data.length c2))] w (PlainPost e A1 A2 c1 c2 w) := by
  obtain ⟨n1, hn1⟩ : ∃ n, e.key.length = n := ⟨_, rfl⟩
  obtain ⟨n2, hn2⟩ : ∃ n, e.data.length = n := ⟨_, rfl⟩
  obtain ⟨kd, h_kd⟩ : ∃ k, e.kind = k := ⟨_, rfl⟩
  have h1 : Ent.hasO kd = true := by rw [← h_kd, hkd]; rfl
  have h2 : Ent.hasT kd = true := by rw [← h_kd, hkd]; rfl
  have h3 : Ent.hasS kd = false := by rw [← h_kd, hkd]; rfl
  have h4 : Ent.codes kd = 0 := by rw [← h_kd, hkd]; rfl
  have h5 : Ent.hasM kd = false := by rw [← h_kd, hkd]; rfl
  have hres : evs (plainE e) (if Ent.hasT e.kind then .slice A1 e.key.length c1 else nilV) (if Ent.hasT e.kind then .slice A2 e.data.length c2 else nilV) = #[.int .i64 2, .int .u64 (e.lsn : Nat), .int .u32 (e.epoch : Nat), .int .u32 (e.order : Nat), .int .i64 0, .bool false, .int .i64 0, .int .i64 0, .int .u64 0, .slice A1 n1 c1, .slice A2 n2 c2] := by
    unfold evs plainE
    simp only [h_kd, h1, h2, h3, h4, h5, hn1, hn2]
    subst h_kd; rw [hkd]; rfl
  unfold PlainPost
  rw [hres]
  clear hres h1 h2 h3 h4 h5
  rw [h_kd] at hkd
  unfold evs
  rw [hn1, hn2, h_kd]
  subst hkd
  clear hn1 hn2 h_kd
  go_enter Try.func58, Try.ntmps58
  go_wp2
  exact ret_E1 (w.heap.size + 1) 26 #[.int .i64 2, .int .u64 (e.lsn : Nat), .int .u32 (e.epoch : Nat), .int .u32 (e.order : Nat), .int .i64 0, .bool false, .int .i64 0, .int .i64 0, .int .u64 0, .slice A1 n1 c1, .slice A2 n2 c2] rfl rfl ((Lies.made2 w _ 26 _).alloc _) rfl rfl ⟨rfl, below3 _ _ _ _⟩

set_option maxRecDepth 100000 in
set_option maxHeartbeats 2000000 in
theorem plain_3 (e : Entry) (A1 A2 : Option Addr) (c1 c2 : Nat) (w : World) (hkd : e.kind = 3) :
    Calls Try.prog 58 #[.agg (evs e (.slice A1 e.key.length c1) (.slice A2 e.data.length c2))] w (PlainPost e A1 A2 c1 c2 w) := by
  obtain ⟨n1, hn1⟩ : ∃ n, e.key.length = n := ⟨_, rfl⟩
  obtain ⟨n2, hn2⟩ : ∃ n, e.data.length = n := ⟨_, rfl⟩
  obtain ⟨kd, h_kd⟩ : ∃ k, e.kind = k := ⟨_, rfl⟩
  have h1 : Ent.hasO kd = true := by rw [← h_kd, hkd]; rfl
  have h2 : Ent.hasT kd = false := by rw [← h_kd, hkd]; rfl
  have h3 : Ent.hasS kd = true := by rw [← h_kd, hkd]; rfl
  have h4 : Ent.codes kd = 0 := by rw [← h_kd, hkd]; rfl
  have h5 : Ent.hasM kd = false := by rw [← h_kd, hkd]; rfl
  have hres : evs (plainE e) (if Ent.hasT e.kind then .slice A1 e.key.length c1 else nilV) (if Ent.hasT e.kind then .slice A2 e.data.length c2 else nilV) = #[.int .i64 3, .int .u64 (e.lsn : Nat), .int .u32 (e.epoch : Nat), .int .u32 (e.order : Nat), .int .i64 e.step, .bool e.undo, .int .i64 e.tri, .int .i64 0, .int .u64 0, .slice none 0 0, .slice none 0 0] := by
    unfold evs plainE
    simp only [h_kd, h1, h2, h3, h4, h5, hn1, hn2]
    subst h_kd; rw [hkd]; rfl
  unfold PlainPost
  rw [hres]
  clear hres h1 h2 h3 h4 h5
  rw [h_kd] at hkd
  unfold evs
  rw [hn1, hn2, h_kd]
  subst hkd
  clear hn1 hn2 h_kd
  go_enter Try.func58, Try.ntmps58
  go_wp2
  exact ret_E1 (w.heap.size + 1) 26 #[.int .i64 3, .int .u64 (e.lsn : Nat), .int .u32 (e.epoch : Nat), .int .u32 (e.order : Nat), .int .i64 e.step, .bool e.undo, .int .i64 e.tri, .int .i64 0, .int .u64 0, .slice none 0 0, .slice none 0 0] rfl rfl ((Lies.made2 w _ 26 _).alloc _) rfl rfl ⟨rfl, below3 _ _ _ _⟩

set_option maxRecDepth 100000 in
set_option maxHeartbeats 2000000 in
theorem plain_4 (e : Entry) (A1 A2 : Option Addr) (c1 c2 : Nat) (w : World) (hkd : e.kind = 4) :
    Calls Try.prog 58 #[.agg (evs e (.slice A1 e.key.length c1) (.slice A2 e.data.length c2))] w (PlainPost e A1 A2 c1 c2 w) := by
  obtain ⟨n1, hn1⟩ : ∃ n, e.key.length = n := ⟨_, rfl⟩
  obtain ⟨n2, hn2⟩ : ∃ n, e.data.length = n := ⟨_, rfl⟩
  obtain ⟨kd, h_kd⟩ : ∃ k, e.kind = k := ⟨_, rfl⟩
  have h1 : Ent.hasO kd = true := by rw [← h_kd, hkd]; rfl
  have h2 : Ent.hasT kd = false := by rw [← h_kd, hkd]; rfl
  have h3 : Ent.hasS kd = true := by rw [← h_kd, hkd]; rfl
  have h4 : Ent.codes kd = 3 := by rw [← h_kd, hkd]; rfl
  have h5 : Ent.hasM kd = false := by rw [← h_kd, hkd]; rfl
  have hres : evs (plainE e) (if Ent.hasT e.kind then .slice A1 e.key.length c1 else nilV) (if Ent.hasT e.kind then .slice A2 e.data.length c2 else nilV) = #[.int .i64 4, .int .u64 (e.lsn : Nat), .int .u32 (e.epoch : Nat), .int .u32 (e.order : Nat), .int .i64 e.step, .bool e.undo, .int .i64 e.tri, .int .i64 e.code, .int .u64 0, .slice none 0 0, .slice none 0 0] := by
    unfold evs plainE
    simp only [h_kd, h1, h2, h3, h4, h5, hn1, hn2]
    subst h_kd; rw [hkd]; rfl
  unfold PlainPost
  rw [hres]
  clear hres h1 h2 h3 h4 h5
  rw [h_kd] at hkd
  unfold evs
  rw [hn1, hn2, h_kd]
  subst hkd
  clear hn1 hn2 h_kd
  go_enter Try.func58, Try.ntmps58
  go_wp2
  exact ret_E1 (w.heap.size + 1) 26 #[.int .i64 4, .int .u64 (e.lsn : Nat), .int .u32 (e.epoch : Nat), .int .u32 (e.order : Nat), .int .i64 e.step, .bool e.undo, .int .i64 e.tri, .int .i64 e.code, .int .u64 0, .slice none 0 0, .slice none 0 0] rfl rfl ((Lies.made2 w _ 26 _).alloc _) rfl rfl ⟨rfl, below3 _ _ _ _⟩

set_option maxRecDepth 100000 in
set_option maxHeartbeats 2000000 in
theorem plain_5 (e : Entry) (A1 A2 : Option Addr) (c1 c2 : Nat) (w : World) (hkd : e.kind = 5) :
    Calls Try.prog 58 #[.agg (evs e (.slice A1 e.key.length c1) (.slice A2 e.data.length c2))] w (PlainPost e A1 A2 c1 c2 w) := by
  obtain ⟨n1, hn1⟩ : ∃ n, e.key.length = n := ⟨_, rfl⟩
  obtain ⟨n2, hn2⟩ : ∃ n, e.data.length = n := ⟨_, rfl⟩
  obtain ⟨kd, h_kd⟩ : ∃ k, e.kind = k := ⟨_, rfl⟩
  have h1 : Ent.hasO kd = true := by rw [← h_kd, hkd]; rfl
  have h2 : Ent.hasT kd = false := by rw [← h_kd, hkd]; rfl
  have h3 : Ent.hasS kd = false := by rw [← h_kd, hkd]; rfl
  have h4 : Ent.codes kd = 3 := by rw [← h_kd, hkd]; rfl
  have h5 : Ent.hasM kd = false := by rw [← h_kd, hkd]; rfl
  have hres : evs (plainE e) (if Ent.hasT e.kind then .slice A1 e.key.length c1 else nilV) (if Ent.hasT e.kind then .slice A2 e.data.length c2 else nilV) = #[.int .i64 5, .int .u64 (e.lsn : Nat), .int .u32 (e.epoch : Nat), .int .u32 (e.order : Nat), .int .i64 0, .bool false, .int .i64 0, .int .i64 e.code, .int .u64 0, .slice none 0 0, .slice none 0 0] := by
    unfold evs plainE
    simp only [h_kd, h1, h2, h3, h4, h5, hn1, hn2]
    subst h_kd; rw [hkd]; rfl
  unfold PlainPost
  rw [hres]
  clear hres h1 h2 h3 h4 h5
  rw [h_kd] at hkd
  unfold evs
  rw [hn1, hn2, h_kd]
  subst hkd
  clear hn1 hn2 h_kd
  go_enter Try.func58, Try.ntmps58
  go_wp2
  exact ret_E1 (w.heap.size + 1) 26 #[.int .i64 5, .int .u64 (e.lsn : Nat), .int .u32 (e.epoch : Nat), .int .u32 (e.order : Nat), .int .i64 0, .bool false, .int .i64 0, .int .i64 e.code, .int .u64 0, .slice none 0 0, .slice none 0 0] rfl rfl ((Lies.made2 w _ 26 _).alloc _) rfl rfl ⟨rfl, below3 _ _ _ _⟩

set_option maxRecDepth 100000 in
set_option maxHeartbeats 2000000 in
theorem plain_6 (e : Entry) (A1 A2 : Option Addr) (c1 c2 : Nat) (w : World) (hkd : e.kind = 6) :
    Calls Try.prog 58 #[.agg (evs e (.slice A1 e.key.length c1) (.slice A2 e.data.length c2))] w (PlainPost e A1 A2 c1 c2 w) := by
  obtain ⟨n1, hn1⟩ : ∃ n, e.key.length = n := ⟨_, rfl⟩
  obtain ⟨n2, hn2⟩ : ∃ n, e.data.length = n := ⟨_, rfl⟩
  obtain ⟨kd, h_kd⟩ : ∃ k, e.kind = k := ⟨_, rfl⟩
  have h1 : Ent.hasO kd = false := by rw [← h_kd, hkd]; rfl
  have h2 : Ent.hasT kd = false := by rw [← h_kd, hkd]; rfl
  have h3 : Ent.hasS kd = false := by rw [← h_kd, hkd]; rfl
  have h4 : Ent.codes kd = 2 := by rw [← h_kd, hkd]; rfl
  have h5 : Ent.hasM kd = false := by rw [← h_kd, hkd]; rfl
  have hres : evs (plainE e) (if Ent.hasT e.kind then .slice A1 e.key.length c1 else nilV) (if Ent.hasT e.kind then .slice A2 e.data.length c2 else nilV) = #[.int .i64 6, .int .u64 (e.lsn : Nat), .int .u32 (e.epoch : Nat), .int .u32 0, .int .i64 0, .bool false, .int .i64 0, .int .i64 e.code, .int .u64 0, .slice none 0 0, .slice none 0 0] := by
    unfold evs plainE
    simp only [h_kd, h1, h2, h3, h4, h5, hn1, hn2]
    subst h_kd; rw [hkd]; rfl
  unfold PlainPost
  rw [hres]
  clear hres h1 h2 h3 h4 h5
  rw [h_kd] at hkd
  unfold evs
  rw [hn1, hn2, h_kd]
  subst hkd
  clear hn1 hn2 h_kd
  go_enter Try.func58, Try.ntmps58
  go_wp2
  exact ret_E1 (w.heap.size + 1) 26 #[.int .i64 6, .int .u64 (e.lsn : Nat), .int .u32 (e.epoch : Nat), .int .u32 0, .int .i64 0, .bool false, .int .i64 0, .int .i64 e.code, .int .u64 0, .slice none 0 0, .slice none 0 0] rfl rfl ((Lies.made2 w _ 26 _).alloc _) rfl rfl ⟨rfl, below3 _ _ _ _⟩

set_option maxRecDepth 100000 in
set_option maxHeartbeats 2000000 in
theorem plain_7 (e : Entry) (A1 A2 : Option Addr) (c1 c2 : Nat) (w : World) (hkd : e.kind = 7) :
    Calls Try.prog 58 #[.agg (evs e (.slice A1 e.key.length c1) (.slice A2 e.data.length c2))] w (PlainPost e A1 A2 c1 c2 w) := by
  obtain ⟨n1, hn1⟩ : ∃ n, e.key.length = n := ⟨_, rfl⟩
  obtain ⟨n2, hn2⟩ : ∃ n, e.data.length = n := ⟨_, rfl⟩
  obtain ⟨kd, h_kd⟩ : ∃ k, e.kind = k := ⟨_, rfl⟩
  have h1 : Ent.hasO kd = false := by rw [← h_kd, hkd]; rfl
  have h2 : Ent.hasT kd = false := by rw [← h_kd, hkd]; rfl
  have h3 : Ent.hasS kd = false := by rw [← h_kd, hkd]; rfl
  have h4 : Ent.codes kd = 0 := by rw [← h_kd, hkd]; rfl
  have h5 : Ent.hasM kd = true := by rw [← h_kd, hkd]; rfl
  have hres : evs (plainE e) (if Ent.hasT e.kind then .slice A1 e.key.length c1 else nilV) (if Ent.hasT e.kind then .slice A2 e.data.length c2 else nilV) = #[.int .i64 7, .int .u64 (e.lsn : Nat), .int .u32 (e.epoch : Nat), .int .u32 0, .int .i64 0, .bool false, .int .i64 0, .int .i64 0, .int .u64 (e.mark : Nat), .slice none 0 0, .slice none 0 0] := by
    unfold evs plainE
    simp only [h_kd, h1, h2, h3, h4, h5, hn1, hn2]
    subst h_kd; rw [hkd]; rfl
  unfold PlainPost
  rw [hres]
  clear hres h1 h2 h3 h4 h5
  rw [h_kd] at hkd
  unfold evs
  rw [hn1, hn2, h_kd]
  subst hkd
  clear hn1 hn2 h_kd
  go_enter Try.func58, Try.ntmps58
  go_wp2
  exact ret_E1 (w.heap.size + 1) 26 #[.int .i64 7, .int .u64 (e.lsn : Nat), .int .u32 (e.epoch : Nat), .int .u32 0, .int .i64 0, .bool false, .int .i64 0, .int .i64 0, .int .u64 (e.mark : Nat), .slice none 0 0, .slice none 0 0] rfl rfl ((Lies.made2 w _ 26 _).alloc _) rfl rfl ⟨rfl, below3 _ _ _ _⟩

set_option maxRecDepth 100000 in
set_option maxHeartbeats 2000000 in
theorem plain_lo (e : Entry) (A1 A2 : Option Addr) (c1 c2 : Nat) (w : World) (hkd : e.kind < 1) :
    Calls Try.prog 58 #[.agg (evs e (.slice A1 e.key.length c1) (.slice A2 e.data.length c2))] w (PlainPost e A1 A2 c1 c2 w) := by
  obtain ⟨n1, hn1⟩ : ∃ n, e.key.length = n := ⟨_, rfl⟩
  obtain ⟨n2, hn2⟩ : ∃ n, e.data.length = n := ⟨_, rfl⟩
  obtain ⟨kd, h_kd⟩ : ∃ k, e.kind = k := ⟨_, rfl⟩
  have h1 : Ent.hasO kd = false := by unfold Ent.hasO; rw [decide_eq_false_iff_not]; omega
  have h2 : Ent.hasT kd = false := by unfold Ent.hasT; rw [decide_eq_false_iff_not]; omega
  have h3 : Ent.hasS kd = false := by unfold Ent.hasS; rw [decide_eq_false_iff_not]; omega
  have h4 : Ent.codes kd = 0 := by unfold Ent.codes; rw [if_neg (by omega), if_neg (by omega)]
  have h5 : Ent.hasM kd = false := by unfold Ent.hasM; rw [decide_eq_false_iff_not]; omega
  have hres : evs (plainE e) (if Ent.hasT e.kind then .slice A1 e.key.length c1 else nilV) (if Ent.hasT e.kind then .slice A2 e.data.length c2 else nilV) = #[.int .i64 kd, .int .u64 (e.lsn : Nat), .int .u32 (e.epoch : Nat), .int .u32 0, .int .i64 0, .bool false, .int .i64 0, .int .i64 0, .int .u64 0, .slice none 0 0, .slice none 0 0] := by
    unfold evs plainE
    simp only [h_kd, h1, h2, h3, h4, h5, hn1, hn2]
    rfl
  unfold PlainPost
  rw [hres]
  clear hres h1 h2 h3 h4 h5
  rw [h_kd] at hkd
  unfold evs
  rw [hn1, hn2, h_kd]
  clear hn1 hn2 h_kd
  have bk2 : (kd == 2) = false := by rw [beq_eq_false_iff_ne]; omega
  have bk3 : (kd == 3) = false := by rw [beq_eq_false_iff_ne]; omega
  have bk4 : (kd == 4) = false := by rw [beq_eq_false_iff_ne]; omega
  have bk7 : (kd == 7) = false := by rw [beq_eq_false_iff_ne]; omega
  go_enter Try.func58, Try.ntmps58
  go_wp2
  exact ret_E1 (w.heap.size + 1) 26 #[.int .i64 kd, .int .u64 (e.lsn : Nat), .int .u32 (e.epoch : Nat), .int .u32 0, .int .i64 0, .bool false, .int .i64 0, .int .i64 0, .int .u64 0, .slice none 0 0, .slice none 0 0] rfl rfl ((Lies.made2 w _ 26 _).alloc _) rfl rfl ⟨rfl, below3 _ _ _ _⟩

set_option maxRecDepth 100000 in
set_option maxHeartbeats 2000000 in
theorem plain_hi (e : Entry) (A1 A2 : Option Addr) (c1 c2 : Nat) (w : World) (hkd : 7 < e.kind) :
    Calls Try.prog 58 #[.agg (evs e (.slice A1 e.key.length c1) (.slice A2 e.data.length c2))] w (PlainPost e A1 A2 c1 c2 w) := by
  obtain ⟨n1, hn1⟩ : ∃ n, e.key.length = n := ⟨_, rfl⟩
  obtain ⟨n2, hn2⟩ : ∃ n, e.data.length = n := ⟨_, rfl⟩
  obtain ⟨kd, h_kd⟩ : ∃ k, e.kind = k := ⟨_, rfl⟩
  have h1 : Ent.hasO kd = false := by unfold Ent.hasO; rw [decide_eq_false_iff_not]; omega
  have h2 : Ent.hasT kd = false := by unfold Ent.hasT; rw [decide_eq_false_iff_not]; omega
  have h3 : Ent.hasS kd = false := by unfold Ent.hasS; rw [decide_eq_false_iff_not]; omega
  have h4 : Ent.codes kd = 0 := by unfold Ent.codes; rw [if_neg (by omega), if_neg (by omega)]
  have h5 : Ent.hasM kd = false := by unfold Ent.hasM; rw [decide_eq_false_iff_not]; omega
  have hres : evs (plainE e) (if Ent.hasT e.kind then .slice A1 e.key.length c1 else nilV) (if Ent.hasT e.kind then .slice A2 e.data.length c2 else nilV) = #[.int .i64 kd, .int .u64 (e.lsn : Nat), .int .u32 (e.epoch : Nat), .int .u32 0, .int .i64 0, .bool false, .int .i64 0, .int .i64 0, .int .u64 0, .slice none 0 0, .slice none 0 0] := by
    unfold evs plainE
    simp only [h_kd, h1, h2, h3, h4, h5, hn1, hn2]
    rfl
  unfold PlainPost
  rw [hres]
  clear hres h1 h2 h3 h4 h5
  rw [h_kd] at hkd
  unfold evs
  rw [hn1, hn2, h_kd]
  clear hn1 hn2 h_kd
  have bk2 : (kd == 2) = false := by rw [beq_eq_false_iff_ne]; omega
  have bk3 : (kd == 3) = false := by rw [beq_eq_false_iff_ne]; omega
  have bk4 : (kd == 4) = false := by rw [beq_eq_false_iff_ne]; omega
  have bk7 : (kd == 7) = false := by rw [beq_eq_false_iff_ne]; omega
  go_enter Try.func58, Try.ntmps58
  go_wp2
  exact ret_E1 (w.heap.size + 1) 26 #[.int .i64 kd, .int .u64 (e.lsn : Nat), .int .u32 (e.epoch : Nat), .int .u32 0, .int .i64 0, .bool false, .int .i64 0, .int .i64 0, .int .u64 0, .slice none 0 0, .slice none 0 0] rfl rfl ((Lies.made2 w _ 26 _).alloc _) rfl rfl ⟨rfl, below3 _ _ _ _⟩

theorem plain_any (e : Entry) (A1 A2 : Option Addr) (c1 c2 : Nat) (w : World) :
    Calls Try.prog 58 #[.agg (evs e (.slice A1 e.key.length c1) (.slice A2 e.data.length c2))] w (PlainPost e A1 A2 c1 c2 w) := by
  by_cases h : e.kind < 1
  · exact plain_lo e A1 A2 c1 c2 w h
  by_cases h7 : 7 < e.kind
  · exact plain_hi e A1 A2 c1 c2 w h7
  have : e.kind = 1 ∨ e.kind = 2 ∨ e.kind = 3 ∨ e.kind = 4 ∨ e.kind = 5 ∨ e.kind = 6 ∨ e.kind = 7 := by omega
  rcases this with h | h | h | h | h | h | h
  · exact plain_1 e A1 A2 c1 c2 w h
  · exact plain_2 e A1 A2 c1 c2 w h
  · exact plain_3 e A1 A2 c1 c2 w h
  · exact plain_4 e A1 A2 c1 c2 w h
  · exact plain_5 e A1 A2 c1 c2 w h
  · exact plain_6 e A1 A2 c1 c2 w h
  · exact plain_7 e A1 A2 c1 c2 w h

end Go.Proofs.Ytccpmalefdnhdaa
